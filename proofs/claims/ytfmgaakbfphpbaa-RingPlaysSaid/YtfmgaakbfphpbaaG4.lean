/- The ground of the proofs, part 4: RefRigM RgMay Make RgOne RgTxn RgAppd RgAppE RgRep RgLaw RgRight RgImgs RgSame RgOk RigNil RgDv RgSto RgEnc RgDAp RgCon RgByt RgWk RgWakes. -/
import Derived.Test.YtfmgaakbfphpbaaG3
import Derived.WalkKit
import Derived.Laws.OwnMore
import Derived.LoopTactic
/- The document's own rig: its methods. -/
namespace Go.Proofs.Ytfmgaakbfphpbaa
open Go.RowKit
set_option linter.unusedVariables false
attribute [-simp] Try.isAgg59 Try.zeroValue59
attribute [-go_sem] loadVar storeVar
attribute [local go_sem] zero_blk build_blk loadVar_open storeVar_open

section
variable {rq q0 q1 : Nat} {S : RS} {w : World} {f : Nat → Prop}

theorem RigQ.rq_lt (h : RigQ rq q0 q1 S w f) : rq < w.heap.size := by
  obtain ⟨f1, f2, ⟨h1, _⟩, _⟩ := h
  exact (Array.getElem?_eq_some_iff.1 h1).1

set_option maxRecDepth 100000 in
set_option maxHeartbeats 1000000 in
/-- **Flush**. -/
theorem RigQ.flush (h : RigQ rq q0 q1 S w f) (hS : S.Fit) (dev : Int) :
    Calls Try.prog 34 #[.pointer (some ⟨rq, 0, none⟩), .int .i64 dev] w fun e w' => e = .returned (.int .i64 (S.flushE dev)) ∧ ∃ f', RigQ rq q0 q1 (S.flush dev) w' f' ∧ Turn f f' w w' := by
  have H1 := Lib.hid (h.through hS)
  have H := Lib.hid h
  clear h hS
  by_cases hd : dev = 0 ∨ dev = 1
  · have q1' : decide (dev < 0) = false := by simp; omega
    have q2' : ¬ 1 < dev := by omega
    have q3' : decide (1 < dev) = false := by simp; omega
    by_cases hok : S.ok = true
    · have hE : Hid (S.flushE dev = 0 ∧ S.flush dev = S.after.fl dev) := by refine (?_ : _ ∧ _); unfold RS.flushE RS.flush; rw [if_pos hd, if_pos hok, if_pos hd, if_pos hok]; exact ⟨rfl, rfl⟩
      rw [hok] at H1
      have H2 : Hid (∀ (x : World) (f2 : Nat → Prop), RigQ rq q0 q1 S.after x f2 → Calls Try.prog 55 #[.pointer (some ⟨dsk q0 q1 dev.toNat, 0, none⟩)] x fun e w' => e = .returned (.tuple #[]) ∧ ∃ f', RigQ rq q0 q1 (S.after.fl dev) w' f' ∧ Turn f2 f' x w') := fun x f2 hx => hx.flOf hd
      clear hok
      rcases hd with rfl | rfl
      all_goals
        go_enter Try.func34, Try.ntmps34
        go_wp2_with fail
        go_at_call 49
        refine H1.out.mono ?_
        rintro e x2 ⟨rfl, f2, g1, g2⟩
        have c0 : x2.cell? ⟨rq, 0, none⟩ = some (.pointer (some ⟨q0, 0, none⟩)) := g1.cell 0
        have c1 : x2.cell? ⟨rq, 1, none⟩ = some (.pointer (some ⟨q1, 0, none⟩)) := g1.cell 1
        have H3 := Lib.hid (H2.out x2 f2 g1)
        have HT := Lib.hid g2
        clear g1 g2
        go_wp2_with fail
        go_at_call 55
        refine H3.out.mono ?_
        rintro e x3 ⟨rfl, f3, g1, g2⟩
        have HR := Lib.hid g1
        have HU := Lib.hid g2
        clear g1 g2 c0 c1
        go_wp2_with fail
        go_ret
        rw [hE.out.1, hE.out.2]
        exact ⟨rfl, f3, HR.out, HT.out.trans HU.out⟩
    · have hok : S.ok = false := by simpa using hok
      have hE : Hid (S.flushE dev = 14 ∧ S.flush dev = S.after) := by refine (?_ : _ ∧ _); unfold RS.flushE RS.flush; rw [if_pos hd, if_neg (by simp [hok]), if_pos hd, if_neg (by simp [hok])]; exact ⟨rfl, rfl⟩
      rw [hok] at H1
      clear hd hok
      go_enter Try.func34, Try.ntmps34
      go_wp2_with fail
      go_at_call 49
      refine H1.out.mono ?_
      rintro e x2 ⟨rfl, f2, g1, g2⟩
      have HR := Lib.hid g1
      have HT := Lib.hid g2
      clear g1 g2
      go_wp2_with fail
      go_ret
      rw [hE.out.1, hE.out.2]
      exact ⟨rfl, f2, HR.out, HT.out⟩
  · have hE : Hid (S.flushE dev = 1 ∧ S.flush dev = S) := by refine (?_ : _ ∧ _); unfold RS.flushE RS.flush; rw [if_neg hd, if_neg hd]; exact ⟨rfl, rfl⟩
    have hq : decide (dev < 0) = true ∨ (decide (dev < 0) = false ∧ decide (1 < dev) = true) := by
      by_cases h0 : dev < 0
      · exact .inl (by simpa using h0)
      · exact .inr ⟨by simpa using h0, by simp; omega⟩
    clear hd
    rcases hq with z1 | ⟨z1, z2⟩
    all_goals
      go_enter Try.func34, Try.ntmps34
      go_wp2_with fail
      go_ret
      rw [hE.out.1, hE.out.2]
      exact ⟨rfl, f, H.out, Turn.refl _ _⟩

set_option maxRecDepth 100000 in
set_option maxHeartbeats 2000000 in
/-- **Write**. -/
theorem RigQ.write (h : RigQ rq q0 q1 S w f) (hS : S.Fit) (hm : S.Few 255) (dev i : Int) {b : List Value} (hb : IsBlk b) :
    Calls Try.prog 22 #[.pointer (some ⟨rq, 0, none⟩), .int .i64 dev, .int .i64 i, .agg b.toArray] w fun e w' => e = .returned (.int .i64 (S.writeE dev i)) ∧ ∃ f', RigQ rq q0 q1 (S.write dev i b) w' f' ∧ Turn f f' w w' := by
  obtain ⟨W, hW⟩ : ∃ W, w.alloc (.cells b.toArray 59) = W := ⟨_, rfl⟩
  have hB : Below w.heap.size w W := by rw [← hW]; exact (Below.refl _ w).alloc (Nat.le_refl _) _
  have K : Hid (W.heap[w.heap.size]? = some (.cells b.toArray 59 (0, 0))) := by rw [← hW]; exact heap_alloc_new w _
  have HLT : Hid (∀ k, f k → k < w.heap.size) := (RigQ.isRes rq q0 q1 S).lt h
  have H := Lib.hid (h.beside hB)
  have H1 := Lib.hid (H.out.has dev i)
  have H3 := Lib.hid (H.out.through hS)
  have HB0 := Lib.hid hB
  have HM := Lib.hid hm
  have HBL := Lib.hid hb
  clear h hS hm hb hB
  by_cases hh : S.has dev i = true
  · have HH := Lib.hid hh
    rw [hh] at H1
    by_cases hok : S.ok = true
    · have hE : Hid (S.writeE dev i = 0 ∧ S.write dev i b = S.after.put dev i.toNat b) := by refine (?_ : _ ∧ _); unfold RS.writeE RS.write; rw [if_pos hh, if_pos hok, if_pos hh, if_pos hok]; exact ⟨rfl, rfl⟩
      rw [hok] at H3
      have H4 : Hid (∀ (x : World) (f2 : Nat → Prop), RigQ rq q0 q1 S.after x f2 → Calls Try.prog 50 #[.pointer (some ⟨dsk q0 q1 dev.toNat, 0, none⟩), .int .i64 i, .agg b.toArray] x fun e w' => e = .returned (.tuple #[]) ∧ ∃ f', RigQ rq q0 q1 (S.after.put dev i.toNat b) w' f' ∧ Turn f2 f' x w') :=
        fun x f2 hx => hx.putOf (by unfold RS.has; rw [S.after_len]; exact HH.out) HBL.out (RS.after_few HM.out)
      have hmx : Try.prog.follows .mixedOrders = true := by kernel_rfl
      have hdv := (RS.has_lt hh).1
      clear hh hok
      rcases hdv with rfl | rfl
      all_goals
        go_enter Try.func22, Try.ntmps22
        go_wp2_with (with_reducible (rw [hW]; clear hW))
        go_at_call 48
        refine H1.out.mono ?_
        rintro e w' ⟨rfl, hx⟩
        obtain rfl := hx.symm
        clear hx
        go_wp2_with fail
        go_at_call 49
        refine H3.out.mono ?_
        rintro e x2 ⟨rfl, f2, g1, g2⟩
        have g1' : RigQ rq q0 q1 S.after x2.drew f2 := (RigQ.isRes _ _ _ _).out g1 (fun _ _ => rfl)
        have c0 : x2.drew.cell? ⟨rq, 0, none⟩ = some (.pointer (some ⟨q0, 0, none⟩)) := g1'.cell 0
        have c1 : x2.drew.cell? ⟨rq, 1, none⟩ = some (.pointer (some ⟨q1, 0, none⟩)) := g1'.cell 1
        have L2 : (loadVar 59 ⟨w.heap.size, 0, none⟩).run Try.prog x2.drew = .ok (.agg b.toArray) x2.drew := by
          have hz := (Array.getElem?_eq_some_iff.1 K.out).1
          refine load_at ?_ HBL.out
          show x2.heap[w.heap.size]? = _
          rw [g2.out _ hz (fun hf => by have := HLT.out _ hf; omega)]
          exact K.out
        have H5 := Lib.hid (H4.out x2.drew f2 g1')
        have HT := Lib.hid g2
        clear g1 g1' g2
        go_wp2_with fail
        refine region_plan (fun x => x = x2.drew) 8 (.takes [0, 1, 2, 3, 4, 5, 6, 7] .leaf) hmx (by kernel_rfl) (by intro c x v a w h; cases x <;> exact h) rfl ?_
        repeat (rw [wpPlan_takes_cons]; simp only [nth_zero, nth_succ]; go_big_quiet_step (fail); refine wpQuiet_nil ?_)
        rw [wpPlan_takes_nil, wpPlan_leaf]
        simp only [List.drop_succ_cons, List.drop_zero]
        go_wp2_with fail
        go_at_call 50
        refine H5.out.mono ?_
        rintro e x3 ⟨rfl, f3, g1, g2⟩
        have HR := Lib.hid g1
        have HU := Lib.hid g2
        clear g1 g2 L2 c0 c1
        go_wp2_with fail
        go_ret
        rw [hE.out.1, hE.out.2]
        have hdr : Turn f2 f2 x2 x2.drew := Turn.of_below (Below.refl _ x2).drew
        exact ⟨rfl, f3, HR.out, (Turn.of_below HB0.out).trans (HT.out.trans (hdr.trans HU.out))⟩
    · have hok : S.ok = false := by simpa using hok
      have hE : Hid (S.writeE dev i = 14 ∧ S.write dev i b = S.after) := by refine (?_ : _ ∧ _); unfold RS.writeE RS.write; rw [if_pos hh, if_neg (by simp [hok]), if_pos hh, if_neg (by simp [hok])]; exact ⟨rfl, rfl⟩
      rw [hok] at H3
      clear hh hok
      go_enter Try.func22, Try.ntmps22
      go_wp2_with (with_reducible (rw [hW]; clear hW))
      go_at_call 48
      refine H1.out.mono ?_
      rintro e w' ⟨rfl, hx⟩
      obtain rfl := hx.symm
      clear hx
      go_wp2_with fail
      go_at_call 49
      refine H3.out.mono ?_
      rintro e x2 ⟨rfl, f2, g1, g2⟩
      have HR := Lib.hid g1
      have HT := Lib.hid g2
      clear g1 g2
      go_wp2_with fail
      go_ret
      rw [hE.out.1, hE.out.2]
      exact ⟨rfl, f2, HR.out, (Turn.of_below HB0.out).trans HT.out⟩
  · have hh : S.has dev i = false := by simpa using hh
    rw [hh] at H1
    have hE : Hid (S.writeE dev i = 1 ∧ S.write dev i b = S) := by refine (?_ : _ ∧ _); unfold RS.writeE RS.write; rw [if_neg (by simp [hh]), if_neg (by simp [hh])]; exact ⟨rfl, rfl⟩
    clear hh
    go_enter Try.func22, Try.ntmps22
    go_wp2_with (with_reducible (rw [hW]; clear hW))
    go_at_call 48
    refine H1.out.mono ?_
    rintro e w' ⟨rfl, hx⟩
    obtain rfl := hx.symm
    clear hx
    go_wp2_with fail
    go_ret
    rw [hE.out.1, hE.out.2]
    exact ⟨rfl, f, H.out, Turn.of_below HB0.out⟩

set_option maxRecDepth 100000 in
set_option maxHeartbeats 2000000 in
/-- **Read**. -/
theorem RigQ.read (h : RigQ rq q0 q1 S w f) (dev i : Int) :
    Calls Try.prog 59 #[.pointer (some ⟨rq, 0, none⟩), .int .i64 dev, .int .i64 i] w fun e w' => e = .returned (.tuple #[.agg (S.read dev i).toArray, .int .i64 (S.readE dev i)]) ∧ Below w.heap.size w w' := by
  obtain ⟨W, hW⟩ : ∃ W, w.alloc (.cells zarr 59) = W := ⟨_, rfl⟩
  have hB : Below w.heap.size w W := by rw [← hW]; exact (Below.refl _ w).alloc (Nat.le_refl _) _
  have K : Hid (W.heap[w.heap.size]? = some (.cells zarr 59 (0, 0)) ∧ w.heap.size < W.heap.size) := by rw [← hW]; exact ⟨heap_alloc_new w _, by simp⟩
  have H := Lib.hid (h.beside hB)
  have H1 := Lib.hid (H.out.has dev i)
  have HB0 := Lib.hid hB
  clear h hB
  have SZ : Hid (∀ x u, Below W.heap.size W x → IsBlk u → ∃ x', (storeVar 59 ⟨w.heap.size, 0, none⟩ (.agg u.toArray)).run Try.prog x = .ok () x' ∧ (loadVar 59 ⟨w.heap.size, 0, none⟩).run Try.prog x' = .ok (.agg u.toArray) x' ∧ Below w.heap.size w x') := fun x u hx hu =>
    own_cell ((hx.block _ K.out.2).trans K.out.1) zarr_size (HB0.out.trans (hx.mono HB0.out.size)) hu
  by_cases hh : S.has dev i = true
  · have HH := Lib.hid hh
    rw [hh] at H1
    cases hdw : S.down with
    | true =>
      have hE : Hid (S.readE dev i = 14 ∧ S.read dev i = fillB 0) := by refine (?_ : _ ∧ _); unfold RS.readE RS.read; rw [if_pos hh, if_pos hdw, if_neg (by simp [hdw])]; exact ⟨rfl, rfl⟩
      have c3 : W.cell? ⟨rq, 3, none⟩ = some (.bool true) := by rw [← hdw]; exact H.out.cell 3
      obtain ⟨x2, st, ld, hb2⟩ := SZ.out W (fillB 0) (Below.refl _ _) (isBlk_fill 0)
      have st' : (storeVar 59 ⟨w.heap.size, 0, none⟩ (.agg zarr)).run Try.prog W = .ok () x2 := st
      have HB2 := Lib.hid hb2
      clear hh hdw st hb2
      go_enter Try.func59, Try.ntmps59
      go_wp2_with (with_reducible (rw [hW]; clear hW))
      go_at_call 48
      refine H1.out.mono ?_
      rintro e w' ⟨rfl, hx⟩
      obtain rfl := hx.symm
      clear hx
      go_wp2_with fail
      rw [hE.out.1, hE.out.2]
      exact bodyPost_ret (results_cell2 rfl rfl ld) rfl ⟨rfl, HB2.out⟩
    | false =>
      have hE : Hid (S.readE dev i = 0 ∧ S.read dev i = S.look dev i.toNat) := by refine (?_ : _ ∧ _); unfold RS.readE RS.read; rw [if_pos hh, if_neg (by simp [hdw]), if_pos ⟨hh, hdw⟩]; exact ⟨rfl, rfl⟩
      have c3 : W.cell? ⟨rq, 3, none⟩ = some (.bool false) := by rw [← hdw]; exact H.out.cell 3
      have c0 : W.cell? ⟨rq, 0, none⟩ = some (.pointer (some ⟨q0, 0, none⟩)) := H.out.cell 0
      have c1 : W.cell? ⟨rq, 1, none⟩ = some (.pointer (some ⟨q1, 0, none⟩)) := H.out.cell 1
      obtain ⟨u, hu⟩ : ∃ u, S.look dev i.toNat = u := ⟨_, rfl⟩
      have HU : Hid (IsBlk u) := by rw [← hu]; exact H.out.okLook HH.out
      have H3 : Hid (Calls Try.prog 24 #[.pointer (some ⟨dsk q0 q1 dev.toNat, 0, none⟩), .int .i64 i] W fun e w' => e = .returned (.agg u.toArray) ∧ Below W.heap.size W w') := by
        have := H.out.readOf HH.out
        rw [hu] at this
        exact this
      rw [hu] at hE
      have hdv := (RS.has_lt hh).1
      clear hh hdw hu
      rcases hdv with rfl | rfl
      all_goals
        go_enter Try.func59, Try.ntmps59
        go_wp2_with (with_reducible (rw [hW]; clear hW))
        go_at_call 48
        refine H1.out.mono ?_
        rintro e w' ⟨rfl, hx⟩
        obtain rfl := hx.symm
        clear hx
        go_wp2_with fail
        go_at_call 24
        refine H3.out.mono ?_
        rintro e x2 ⟨rfl, hb⟩
        obtain ⟨x3, st, ld, hb2⟩ := SZ.out x2 u hb HU.out
        have HB2 := Lib.hid hb2
        clear hb hb2 c3 c0 c1
        go_wp2_with fail
        rw [hE.out.1, hE.out.2]
        exact bodyPost_ret (results_cell2 rfl rfl ld) rfl ⟨rfl, HB2.out⟩
  · have hh : S.has dev i = false := by simpa using hh
    rw [hh] at H1
    have hE : Hid (S.readE dev i = 1 ∧ S.read dev i = fillB 0) := by refine (?_ : _ ∧ _); unfold RS.readE RS.read; rw [if_neg (by simp [hh]), if_neg (by simp [hh])]; exact ⟨rfl, rfl⟩
    obtain ⟨x2, st, ld, hb2⟩ := SZ.out W (fillB 0) (Below.refl _ _) (isBlk_fill 0)
    have st' : (storeVar 59 ⟨w.heap.size, 0, none⟩ (.agg zarr)).run Try.prog W = .ok () x2 := st
    have HB2 := Lib.hid hb2
    clear hh st hb2
    go_enter Try.func59, Try.ntmps59
    go_wp2_with (with_reducible (rw [hW]; clear hW))
    go_at_call 48
    refine H1.out.mono ?_
    rintro e w' ⟨rfl, hx⟩
    obtain rfl := hx.symm
    clear hx
    go_wp2_with fail
    rw [hE.out.1, hE.out.2]
    exact bodyPost_ret (results_cell2 rfl rfl ld) rfl ⟨rfl, HB2.out⟩
end
end Go.Proofs.Ytfmgaakbfphpbaa

/- The document's May: is there such a ring? -/
namespace Go.Proofs.Ytfmgaakbfphpbaa
open Go.RowKit
set_option linter.unusedVariables false
attribute [-simp] Try.isAgg59 Try.zeroValue59
attribute [-go_sem] loadVar storeVar
attribute [local go_sem] zero_blk build_blk loadVar_open storeVar_open

/-- Is there such a ring? -/
def mayR (n : Nat) (frm count at0 : Int) : Bool := decide (0 ≤ frm ∧ 2 ≤ count ∧ count ≤ 256 ∧ frm ≤ n ∧ count ≤ n - frm ∧ 0 ≤ at0 ∧ at0 < count)
theorem mayR_yes {n : Nat} {frm count at0 : Int} (h : mayR n frm count at0 = true) : ∃ F C A : Nat, frm = F ∧ count = C ∧ at0 = A ∧ 2 ≤ C ∧ C ≤ 256 ∧ F + C ≤ n ∧ A < C := by
  have h := of_decide_eq_true h
  exact ⟨frm.toNat, count.toNat, at0.toNat, by omega, by omega, by omega, by omega, by omega, by omega, by omega⟩
section
variable {rq q0 q1 : Nat} {S : RS} {w : World} {f : Nat → Prop}
set_option maxRecDepth 100000 in
set_option maxHeartbeats 1000000 in
/-- **May**. -/
theorem refMay (h : RigQ rq q0 q1 S w f) (frm count at0 : Int) (hn : S.n0 ≤ 4096) :
    Calls Try.prog 33 #[.pointer (some ⟨rq, 0, none⟩), .int .i64 frm, .int .i64 count, .int .i64 at0] w fun e w' => e = .returned (.bool (mayR S.n0 frm count at0)) ∧ w' = w := by
  have c0 : w.cell? ⟨rq, 0, none⟩ = some (.pointer (some ⟨q0, 0, none⟩)) := h.cell 0
  obtain ⟨g, ⟨ss, vb, sv, h1, rfl⟩, h2⟩ := h.d0
  have c1 : w.cell? ⟨q0, 0, none⟩ = some (.slice (some ⟨ss, 0, none⟩) S.n0 S.n0) := by rw [cell_of_row _ _ _ _ _ _ h1.head]; rfl
  have HB : Hid (mayR S.n0 frm count at0 = decide (0 ≤ frm ∧ 2 ≤ count ∧ count ≤ 256 ∧ frm ≤ S.n0 ∧ count ≤ S.n0 - frm ∧ 0 ≤ at0 ∧ at0 < count)) := rfl
  obtain ⟨n, hN⟩ : ∃ n, S.n0 = n := ⟨_, rfl⟩
  rw [hN] at c1 hn HB ⊢
  clear h h1 h2 hN
  go_enter Try.func33, Try.ntmps33
  go_wp2_with fail
  all_goals
    go_ret
    refine ⟨congrArg (fun b => Ending.returned (Value.bool b)) ?_, rfl⟩
    rw [HB.out]
    first
      | exact (decide_eq_false (by omega)).symm
      | (rw [decide_eq_decide]; omega)
set_option maxRecDepth 100000 in
set_option maxHeartbeats 1000000 in
theorem refMay_nil (frm count at0 : Int) (w : World) :
    Calls Try.prog 33 #[.pointer none, .int .i64 frm, .int .i64 count, .int .i64 at0] w fun e w' => e = .returned (.bool false) ∧ w' = w := by
  go_enter Try.func33, Try.ntmps33
  go_wp2_with fail
  go_ret
  exact ⟨rfl, rfl⟩
end
end Go.Proofs.Ytfmgaakbfphpbaa

/- make of a slice whose run is known; a guard that lets it by is no bar. -/
namespace Go.Proofs.Ytfmgaakbfphpbaa
open Go.RowKit
set_option linter.unusedVariables false
theorem wpList_make_run {P : Program} {w w' : World} {ops : Array Oper} {rest : List Oper} {o : Oper} {a : Act} {Q : Exit → Act → World → Prop} (t : TypeId) (l c : Operand)
    (ho : o.op = .makeSlice t l c) (hw : Region.wanted o (yielded ops a.tmps) = true) (vl vc v' : Value) (hl : a.eval l = vl) (hc : a.eval c = vc)
    (hrun : (Instr.makeSlice t vl vc).run P w = .ok v' w') (h : wpList P ops Q rest (a.put o.dst v') w') : wpList P ops Q (o :: rest) a w := by
  unfold wpList
  rw [if_pos hw]
  refine .inl ?_
  unfold Oper.wp
  simp only [execOp, ho, Sem.run_bind, hl, hc, hrun, Result.andThen_ok, Sem.run_pure]
  exact h
/-- A gate for an arm: the next operation makes a slice. -/
theorem gate_make {P : Program} {w : World} {ops : Array Oper} {rest : List Oper} {a : Act} {Q : Exit → Act → World → Prop} {dst : Option Tmp} {t ty : TypeId} {l c : Operand} {pos : String} {after : Array Edge} {guard : Option (Nat × Bool)}
    (h : wpList P ops Q ({ dst := dst, op := .makeSlice t l c, type := ty, pos := pos, after := after, guard := guard } :: rest) a w) :
    wpList P ops Q ({ dst := dst, op := .makeSlice t l c, type := ty, pos := pos, after := after, guard := guard } :: rest) a w := h
/-- A struct's literal whose run is known; a guard that lets it by is no bar. -/
theorem wpList_struct_run {P : Program} {w w' : World} {ops : Array Oper} {rest : List Oper} {o : Oper} {a : Act} {Q : Exit → Act → World → Prop} (t : TypeId) (parts : Array (Nat × Operand))
    (ho : o.op = .build t parts) (hw : Region.wanted o (yielded ops a.tmps) = true) (vs : List (Nat × Value)) (v' : Value) (hs : (parts.toList.map fun (i, x) => (i, a.eval x)) = vs)
    (hrun : (Instr.build t vs.toArray).run P w = .ok v' w') (h : wpList P ops Q rest (a.put o.dst v') w') : wpList P ops Q (o :: rest) a w := by
  unfold wpList
  rw [if_pos hw]
  refine .inl ?_
  have hs' : (parts.map fun (i, x) => (i, a.eval x)) = vs.toArray := by
    apply Array.toList_inj.1
    rw [Array.toList_map, hs]
  unfold Oper.wp
  simp only [execOp, ho, Sem.run_bind, hs', hrun, Result.andThen_ok, Sem.run_pure]
  exact h
/-- A gate for an arm: the next operation is a struct's or an array's literal of type k. -/
theorem gate_struct (k : TypeId) {P : Program} {w : World} {ops : Array Oper} {rest : List Oper} {a : Act} {Q : Exit → Act → World → Prop} {dst : Option Tmp} {ty : TypeId} {parts : Array (Nat × Operand)} {pos : String} {after : Array Edge} {guard : Option (Nat × Bool)}
    (h : wpList P ops Q ({ dst := dst, op := .build k parts, type := ty, pos := pos, after := after, guard := guard } :: rest) a w) :
    wpList P ops Q ({ dst := dst, op := .build k parts, type := ty, pos := pos, after := after, guard := guard } :: rest) a w := h
end Go.Proofs.Ytfmgaakbfphpbaa

/- The document's one: the transaction at a place. -/
namespace Go.Proofs.Ytfmgaakbfphpbaa
open Go.RowKit Go.Shelf
set_option linter.unusedVariables false
attribute [-simp] Try.isAgg59 Try.zeroValue59 Try.isAgg79 Try.zeroValue79 Try.isAgg102 Try.zeroValue102 Try.isAgg95 Try.zeroValue95
attribute [-go_sem] loadVar storeVar run_equalIn_agg
attribute [local go_sem] zero_blk build_blk zero_bod build_bod zero_sec zero_imgR loadVar_open5 storeVar_open5

/-- All sectors of the fast disk are bytes. -/
def RS.Byt (S : RS) : Prop := ∀ i, i < S.n0 → IsBytes (S.rd i) ∧ (S.rd i).length = 64 ∧ (S.D0 i).look = u8s (S.rd i)

set_option maxRecDepth 100000 in
set_option maxHeartbeats 2000000 in
/-- **one**. -/
theorem refOne {rq q0 q1 : Nat} {S : RS} {w : World} {f : Nat → Prop} (h : RigQ rq q0 q1 S w f) (hby : S.Byt) (hup : S.down = false) {F C A : Nat} (hC2 : 2 ≤ C) (hC : C ≤ 256) (hF : F + C ≤ S.n0) (hA : A < C) (hn : S.n0 ≤ 4096) {seq : Int} (hs : IsSeq seq) :
    Calls Try.prog 40 #[.pointer (some ⟨rq, 0, none⟩), .int .i64 (F : Int), .int .i64 (C : Int), .int .i64 (A : Int), .int .u32 seq] w fun e w' =>
      (∃ v, e = .returned (.tuple #[v, .int .i64 0]) ∧ (match oneS S.rd F C A seq with | none => v = .slice none 0 0 | some t => 0 < t.length ∧ w'.ownsRow w.heap.size 95 49 v t.length (imgR t).flatten)) ∧ Below w.heap.size w w' := by
  have H := Lib.hid h
  have HBY := Lib.hid hby
  have HUP := Lib.hid hup
  obtain ⟨res, hres⟩ : ∃ res, oneS S.rd F C A seq = res := ⟨_, rfl⟩
  have HR : Hid (oneGo (turnG S.rd F C A) seq C 0 [] = res) := hres
  have HSQ := Lib.hid hs
  have HFN := Lib.hid hF
  rw [hres]
  clear h hby hup hs hres hF
  go_enter Try.func40, Try.ntmps40
  go_wp2_with fail
  go_loopw [12, 13] (fun out i wr => ∃ (k : Nat) (acc : List Img), k ≤ C ∧ i = .int .i64 (k : Int) ∧ acc.length = k ∧ Hid (wr.ownsRow w.heap.size 95 49 out (imgR acc).length (imgR acc).flatten) ∧ Hid (Below w.heap.size w wr) ∧ Hid (oneGo (turnG S.rd F C A) seq (C - k) k acc = res)) (fun _ i _ => C - (intOf i).toNat)
  case atStart => exact ⟨0, [], Nat.zero_le _, rfl, rfl, World.ownsRow_nil _ _ _ _, Below.refl _ _, HR.out⟩
  case round =>
    obtain ⟨k, acc, hk, rfl, hacc, HO, HB, HG⟩ := hrel
    have HAC := Lib.hid hacc
    clear hacc
    by_cases hlt : k < C
    · have g1 : (k : Int) < (C : Int) := by omega
      have g2 : decide ((k : Int) < (C : Int)) = true := by simpa using g1
      obtain ⟨i, hi⟩ : ∃ i, F + (A + k) % C = i := ⟨_, rfl⟩
      have hmod : ((A : Int) + (k : Int)) % (C : Int) = (((A + k) % C : Nat) : Int) := by rw [Int.natCast_emod, Int.natCast_add]
      have hin : i < S.n0 := by have := Nat.mod_lt (A + k) (show 0 < C by omega); have := HFN.out; omega
      have hii : (F : Int) + ((A : Int) + (k : Int)) % (C : Int) = (i : Int) := by rw [hmod]; omega
      have hi4 : (i : Int) < 4096 := by omega
      have HT : Hid (turnG S.rd F C A k = S.rd i) := by show S.rd (F + (A + k) % C) = _; rw [hi]
      have hCz : ¬ ((C : Int) = 0) := by omega
      have hrb := (HBY.out i hin)
      have HRD : Hid (∀ x : World, Below w.heap.size w x → Calls Try.prog 59 #[.pointer (some ⟨rq, 0, none⟩), .int .i64 0, .int .i64 (i : Int)] x fun e w' => e = .returned (.tuple #[.agg (u8s (S.rd i)).toArray, .int .i64 0]) ∧ Below x.heap.size x w') := fun x hx => by
        have hh := (H.out.beside hx).read 0 (i : Int)
        have e1 : S.read 0 (i : Int) = u8s (S.rd i) := by
          unfold RS.read
          rw [if_pos ⟨RS.has0 hin, HUP.out⟩]
          unfold RS.look
          rw [if_pos rfl]
          exact hrb.2.2
        have e2 : S.readE 0 (i : Int) = 0 := by
          unfold RS.readE
          rw [if_pos (RS.has0 hin), if_neg (by rw [HUP.out]; simp)]
        rw [e1, e2] at hh
        exact hh
      have HIB := Lib.hid hrb.1
      have HIL := Lib.hid hrb.2.1
      clear hi hrb hmod
      obtain ⟨bs, hbs⟩ : ∃ bs, S.rd i = bs := ⟨_, rfl⟩
      rw [hbs] at HT HRD HIB HIL
      clear hbs
      go_wp2_with fail
      go_at_call 59
      refine (HRD.out wr HB.out).mono ?_
      rintro e x1 ⟨rfl, hb⟩
      obtain ⟨x2, ST2, hr2, hb2⟩ := new_blk x1 (isBlk_u8s HIL.out)
      have b2 : Below wr.heap.size wr x2 := hb.trans (hb2.mono hb.size)
      have B2 : Hid (Below w.heap.size w x2) := HB.out.trans (b2.mono HB.out.size)
      have O2 := Lib.hid (own_below HO.out b2)
      have L2 := hr2.blk (by rw [u8s_length]; exact HIL.out)
      clear hb hb2 b2 hr2 HRD
      go_wp2_with fail
      clear ST2 L2 hii hi4
      go_at_call 60
      refine (refDecode bs HIB.out HIL.out x2).mono ?_
      rintro e x3 ⟨rfl, hb⟩
      obtain ⟨x4, ST4, hr4, hb4⟩ := new_sec x3 (decS bs) (decS_ok HIB.out HIL.out).len
      have b4 : Below x2.heap.size x2 x4 := hb.trans (hb4.mono hb.size)
      have B4 : Hid (Below w.heap.size w x4) := B2.out.trans (b4.mono B2.out.size)
      have O4 := Lib.hid (own_below O2.out b4)
      have R4 := Lib.hid hr4
      clear hb hb4 b4 hr4 O2
      have hgo := HG.out
      rw [show C - k = (C - k - 1) + 1 by omega] at hgo
      unfold oneGo at hgo
      rw [HT.out] at hgo
      by_cases hd : decOk bs = true
      · have eS : decS bs = Sct.of bs ∧ decE bs = 0 := by unfold decS decE; rw [if_pos hd, if_pos hd]; exact ⟨rfl, rfl⟩
        have hok := of_ok HIB.out HIL.out
        rw [eS.1] at R4 ST4
        rw [eS.1, eS.2]
        obtain ⟨P, hP⟩ : ∃ P, Sct.of bs = P := ⟨_, rfl⟩
        rw [hP] at R4 ST4 hok hgo ⊢
        have HPO := Lib.hid hok
        have c0 : x4.cell? ⟨x3.heap.size, 0, none⟩ = some (.int .u8 P.mark) := R4.out.cell 0 _ rfl
        have c1 : x4.cell? ⟨x3.heap.size, 1, none⟩ = some (.int .u32 P.seq) := R4.out.cell 1 _ rfl
        have c2 : x4.cell? ⟨x3.heap.size, 2, none⟩ = some (.int .i64 P.index) := R4.out.cell 2 _ rfl
        have c3 := R4.out.bod hok.len
        have EQ := eq_bod hok.len (show (List.replicate 48 (0 : Int)).length = 48 by simp) x4
        obtain ⟨z, hz⟩ : ∃ z, alike (u8s P.body) (u8s (List.replicate 48 0)) = z := ⟨_, rfl⟩
        rw [hz] at EQ
        have hz2 : z = true ↔ P.body = List.replicate 48 0 := by
          rw [← hz, alike_iff]
          exact ⟨u8s_inj, fun e => by rw [e]⟩
        have EQ2 : (Op.equalIn 10000 79 (.agg (u8s P.body).toArray) (.agg z48.toArray)).run Try.prog x4 = .ok z x4 := EQ
        obtain ⟨mk, hmk⟩ : ∃ q, P.mark = q := ⟨_, rfl⟩
        obtain ⟨sq, hsq⟩ : ∃ q, P.seq = q := ⟨_, rfl⟩
        obtain ⟨ix, hix⟩ : ∃ q, P.index = q := ⟨_, rfl⟩
        rw [hmk] at c0 hgo
        rw [hsq] at c1 hgo
        rw [hix] at c2 hgo
        have EM := Lib.hid hmk
        have EX := Lib.hid hix
        rw [hd] at hgo
        clear hok hz EQ hmk hsq hix hd eS hP
        by_cases h1 : sq = seq
        · have g3 : (sq == seq) = true := by simpa using h1
          rw [if_neg (by simp [h1])] at hgo
          by_cases h2 : mk = 67
          · have g4 : (mk == 67) = true := by simpa using h2
            rw [if_pos h2] at hgo
            by_cases h3 : k < 1
            · have g5 : decide ((k : Int) < 1) = true := by simp; omega
              rw [if_pos (.inl h3)] at hgo
              subst hgo
              clear h1 h2 h3 hz2
              go_wp2_with fail
              go_ret2
              first | exact ⟨rfl, B4.out⟩ | exact ⟨⟨_, rfl, rfl⟩, B4.out⟩
            · have g5 : decide ((k : Int) < 1) = false := by simp; omega
              by_cases h4 : ix = (k : Int)
              · subst h4
                cases z with
                | false =>
                  have h5 : P.body ≠ List.replicate 48 0 := fun e => by have := hz2.2 e; cases this
                  rw [if_pos (.inr (.inr h5))] at hgo
                  subst hgo
                  clear h1 h2 h3 hz2 h5
                  go_wp2_with fail
                  go_ret2
                  first | exact ⟨rfl, B4.out⟩ | exact ⟨⟨_, rfl, rfl⟩, B4.out⟩
                | true =>
                  have h5 : P.body = List.replicate 48 0 := hz2.1 rfl
                  rw [if_neg (by rintro (h | h | h); exact h3 h; exact h rfl; exact h h5)] at hgo
                  subst hgo
                  have hpos : Hid (0 < acc.length) := by show _ < _; rw [HAC.out]; omega
                  have HO4 : Hid (x4.ownsRow w.heap.size 95 49 u12 acc.length (imgR acc).flatten) := by
                    have := O4.out
                    rw [imgR_length] at this
                    exact this
                  clear h1 h2 h3 hz2 h5
                  go_wp2_with fail
                  go_ret2
                  exact ⟨⟨_, rfl, hpos.out, HO4.out⟩, B4.out⟩
              · have g6 : (ix == (k : Int)) = false := by simpa using h4
                have g7 : ¬ ix = (k : Int) := h4
                rw [if_pos (.inr (.inl h4))] at hgo
                subst hgo
                clear h1 h2 h3 h4 hz2
                go_wp2_with fail
                go_ret2
                first | exact ⟨rfl, B4.out⟩ | exact ⟨⟨_, rfl, rfl⟩, B4.out⟩
          · have g4 : (mk == 67) = false := by simpa using h2
            rw [if_neg h2] at hgo
            by_cases h3 : mk = 73
            · have g5 : (mk == 73) = true := by simpa using h3
              rw [if_neg (by simpa using h3)] at hgo
              obtain ⟨X, hX⟩ : ∃ X : Img, X = ⟨ix, P.body⟩ := ⟨_, rfl⟩
              rw [← hX] at hgo
              have hXc : X.cells = Value.int .i64 ix :: u8s P.body := by rw [hX]; rfl
              have hXl : X.cells.length = 49 := Img.cells_length (by rw [hX]; exact HPO.out.len)
              have BI : Hid ((Instr.build 95 #[(0, .int .i64 ix), (1, .agg (u8s P.body).toArray)]).run Try.prog x4 = .ok (.agg X.cells.toArray) x4) := by
                show _ = _
                rw [hXc]
                exact build_imgR ix (u8s P.body) (by rw [u8s_length]; exact HPO.out.len) x4
              obtain ⟨x5, hx5⟩ : ∃ x, x4.alloc (.cells X.cells.toArray 95) = x := ⟨_, rfl⟩
              have SB : Hid ((Instr.buildSlice 39 1 #[(0, .agg X.cells.toArray)]).run Try.prog x4 = .ok (.slice (some ⟨x4.heap.size, 0, none⟩) 1 1) x5) := by show _ = _; rw [← hx5]; exact slice_imgR x4 _ hXl
              have b5 : Below x4.heap.size x4 x5 := by rw [← hx5]; exact below_new x4 _
              have B5 : Below w.heap.size w x5 := B4.out.trans (b5.mono B4.out.size)
              have O5 := own_below O4.out b5
              obtain ⟨v6, x6, r6, o6, g6, -⟩ := append_imgR w.heap.size x5 u12 (imgR acc) X.cells x4.heap.size O5 hXl (Img.cells_one X) (row_range (t := 95) (by rw [← hx5]; exact heap_alloc_new x4 _)) (by rw [imgR_length, HAC.out]; omega) B5.size
              have R6 := Lib.hid r6
              have B6 : Hid (Below w.heap.size w x6) := B5.grown g6 B5.size (fun j e => (O5.lt j e).1)
              have O6 : Hid (x6.ownsRow w.heap.size 95 49 v6 (imgR (acc ++ [X])).length (imgR (acc ++ [X])).flatten) := by
                have e : imgR (acc ++ [X]) = imgR acc ++ [X.cells] := by unfold imgR; rw [List.map_append]; rfl
                show World.ownsRow _ _ _ _ _ _ _
                rw [e]
                exact o6
              have HLT := Lib.hid hlt
              have HGO : Hid (oneGo (turnG S.rd F C A) seq (C - (k + 1)) (k + 1) (acc ++ [X]) = res) := by
                show _ = _
                rw [show C - (k + 1) = C - k - 1 by omega]
                exact hgo
              clear h1 h2 h3 hz2 hX hXc hXl hx5 b5 B5 O5 r6 o6 g6 hgo EQ2
              go_wp2_with (first | ((with_reducible refine gate_struct 95 ?_); refine wpList_struct_run _ _ rfl rfl [(0, .int .i64 ix), (1, .agg (u8s P.body).toArray)] _ rfl BI.out ?_) | ((with_reducible refine gate_build ?_); refine wpList_build_run _ _ _ rfl rfl [(0, .agg X.cells.toArray)] _ rfl SB.out ?_) | (at_builtin; refine wpList_append_run (.tmp 72) (.tmp 78) 39 rfl rfl _ _ _ rfl rfl R6.out ?_))
              go_roundw
              case rel => exact ⟨k + 1, acc ++ [X], HLT.out, by go_num, by rw [List.length_append, HAC.out]; rfl, O6, B6, HGO⟩
              case measure => have := HLT.out; simp [intOf]; omega
            · have g5 : (mk == 73) = false := by simpa using h3
              rw [if_pos (by simpa using h3)] at hgo
              subst hgo
              clear h1 h2 h3 hz2
              go_wp2_with fail
              go_ret2
              first | exact ⟨rfl, B4.out⟩ | exact ⟨⟨_, rfl, rfl⟩, B4.out⟩
        · have g3 : (sq == seq) = false := by simpa using h1
          rw [if_pos (by simp [h1])] at hgo
          subst hgo
          clear h1 hz2
          go_wp2_with fail
          go_ret2
          first | exact ⟨rfl, B4.out⟩ | exact ⟨⟨_, rfl, rfl⟩, B4.out⟩
      · have hd : decOk bs = false := by simpa using hd
        have eS : decS bs = zsct ∧ decE bs = 11 := by unfold decS decE; rw [hd]; exact ⟨rfl, rfl⟩
        rw [eS.1] at R4 ST4
        rw [eS.1, eS.2]
        rw [if_pos (.inl hd)] at hgo
        subst hgo
        clear hd eS
        go_wp2_with fail
        go_ret2
        first | exact ⟨rfl, B4.out⟩ | exact ⟨⟨_, rfl, rfl⟩, B4.out⟩
    · have g2 : decide ((k : Int) < (C : Int)) = false := by simp; omega
      have hgo := HG.out
      rw [show C - k = 0 by omega] at hgo
      have hr : none = res := hgo
      subst hr
      clear hgo
      go_wp2_with fail
      go_ret2
      first | exact ⟨rfl, HB.out⟩ | exact ⟨⟨_, rfl, rfl⟩, HB.out⟩
end Go.Proofs.Ytfmgaakbfphpbaa

/- Transactions in memory: slices of slices of images. -/
namespace Go.Proofs.Ytfmgaakbfphpbaa
open Go.RowKit
set_option linter.unusedVariables false

/-- Transactions that have been made since block N. -/
def TxnsR (eS eI : TypeId) (x : World) (N : Nat) (v : Value) (ts : List (List Img)) : Prop :=
  ∃ vs : List Value, vs.length = ts.length ∧ x.ownsRow N eS 1 v vs.length vs ∧ ∀ (i : Nat) (u : Value) (t : List Img), vs[i]? = some u → ts[i]? = some t → x.ownsRow N eI 49 u t.length (imgR t).flatten
theorem TxnsR.nil (eS eI : TypeId) (x : World) (N : Nat) : TxnsR eS eI x N (.slice none 0 0) [] := ⟨[], rfl, World.ownsRow_nil _ _ _ _, fun i u t h => by simp at h⟩
theorem own_belowT {x x' : World} {N e sz n : Nat} {v : Value} {xs : List Value} (h : x.ownsRow N e sz v n xs) (hb : Below x.heap.size x x') : x'.ownsRow N e sz v n xs := by
  refine ⟨h.1, ?_⟩
  rcases h.2 with h' | ⟨g, cap, cur, rfl, a1, a2, a3⟩
  · exact .inl h'
  · exact .inr ⟨g, cap, cur, rfl, a1, (hb.block g (Array.getElem?_eq_some_iff.1 a2).1).trans a2, a3⟩
theorem TxnsR.below {eS eI : TypeId} {x y : World} {N : Nat} {v : Value} {ts : List (List Img)} (h : TxnsR eS eI x N v ts) (hb : Below x.heap.size x y) : TxnsR eS eI y N v ts := by
  obtain ⟨vs, h1, h2, h3⟩ := h
  exact ⟨vs, h1, own_belowT h2 hb, fun i u t hu ht => own_belowT (h3 i u t hu ht) hb⟩
theorem row_ne {x : World} {N e sz n B : Nat} {v : Value} {xs C : List Value} {t : TypeId} (h : x.ownsRow N e sz v n xs) (hB : RowC x B t C) (hne : e ≠ t) : v.ownBlock ≠ some B := by
  rcases h.2 with ⟨rfl, _⟩ | ⟨g, cap, cur, rfl, _, hg, _⟩
  · simp [Value.ownBlock]
  · intro e'
    obtain rfl : g = B := by simpa [Value.ownBlock] using e'
    have hB' : x.heap[g]? = some (.cells C.toArray t (0, 0)) := hB
    rw [hg] at hB'
    cases hB'
    exact hne rfl
theorem rows_ne {x : World} {N N' e e' sz sz' n n' : Nat} {v v' : Value} {xs xs' : List Value} (h : x.ownsRow N e sz v n xs) (h' : x.ownsRow N' e' sz' v' n' xs') (hne : e ≠ e') : v.ownBlock = none ∨ v.ownBlock ≠ v'.ownBlock := by
  rcases h.2 with ⟨rfl, _⟩ | ⟨g, cap, cur, rfl, _, hg, _⟩
  · exact .inl rfl
  · right
    rcases h'.2 with ⟨rfl, _⟩ | ⟨g', cap', cur', rfl, _, hg', _⟩
    · simp [Value.ownBlock]
    · intro ee
      obtain rfl : g = g' := by simpa [Value.ownBlock] using ee
      rw [hg] at hg'
      cases hg'
      exact hne rfl
theorem grownBy_setCellJ (W : World) (b j : Nat) (v : Value) : W.grownBy (W.setCell ⟨b, j, none⟩ v) (some b) :=
  ⟨rfl, rfl, rfl, (KeepsWalks.setCell W _ v).size, fun k _ hk => Below.heap_setCell _ _ _ k (fun e => hk (by rw [e]))⟩
theorem TxnsR.setCell {eS eI : TypeId} {x : World} {N B : Nat} {v : Value} {ts : List (List Img)} {C : List Value} {t : TypeId} (h : TxnsR eS eI x N v ts) (hB : RowC x B t C) (h1 : eS ≠ t) (h2 : eI ≠ t) (j : Nat) (u : Value) : TxnsR eS eI (x.setCell ⟨B, j, none⟩ u) N v ts := by
  obtain ⟨vs, g1, g2, g3⟩ := h
  exact ⟨vs, g1, g2.kept (grownBy_setCellJ x B j u) (.inr (row_ne g2 hB h1)), fun i w t hw ht => (g3 i w t hw ht).kept (grownBy_setCellJ x B j u) (.inr (row_ne (g3 i w t hw ht) hB h2))⟩
theorem TxnsR.grownC {eS eI : TypeId} {x y : World} {N B : Nat} {v : Value} {ts : List (List Img)} {C : List Value} {t : TypeId} (h : TxnsR eS eI x N v ts) (hB : RowC x B t C) (h1 : eS ≠ t) (h2 : eI ≠ t) (hg : x.grownBy y (some B)) : TxnsR eS eI y N v ts := by
  obtain ⟨vs, g1, g2, g3⟩ := h
  exact ⟨vs, g1, g2.kept hg (.inr (row_ne g2 hB h1)), fun i w t hw ht => (g3 i w t hw ht).kept hg (.inr (row_ne (g3 i w t hw ht) hB h2))⟩
theorem RowC.grown {x y : World} {B : Nat} {t : TypeId} {C : List Value} {row : Option Nat} (h : RowC x B t C) (hg : x.grownBy y row) (hne : row ≠ some B) : RowC y B t C := (hg.block B h.lt (fun e => hne e.symm)).trans h
theorem row_lenT {W : World} {base sz n : Nat} {e : TypeId} {v : Value} {xs : List Value} (h : W.ownsRow base e sz v n xs) : ∃ ra c, v = .slice ra n c ∧ (0 < n → ∃ g, ra = some ⟨g, 0, none⟩ ∧ g < W.heap.size ∧ W.rangeAt g 0 xs) := by
  rcases h.2 with ⟨rfl, rfl⟩ | ⟨g, cap, cur, rfl, _, hg, _⟩
  · exact ⟨_, _, rfl, fun h => absurd h (by omega)⟩
  · refine ⟨_, _, rfl, fun _ => ⟨g, rfl, (Array.getElem?_eq_some_iff.1 hg).1, fun j u hj => ?_⟩⟩
    have := h.cells (g := g) rfl j u hj
    rwa [Addr.add_mid] at this

-- revetmentref06.Image
set_option maxRecDepth 100000 in
theorem info_slsR : (Try.prog.info? 39).map (fun i => (i.zero, i.size, i.bytes)) = some (some (.slice none 0 0), 1, 24) := by kernel_rfl
set_option maxRecDepth 100000 in
theorem slice_slsR (w : World) (a : Option Addr) (n c : Nat) : (Instr.buildSlice 51 1 #[(0, .slice a n c)]).run Try.prog w = .ok (.slice (some ⟨w.heap.size, 0, none⟩) 1 1) (w.alloc (.cells #[.slice a n c] 39)) := by kernel_rfl
set_option maxRecDepth 100000 in
/-- A transaction appended to transactions. -/
theorem append_slsR (N : Nat) (w : World) (v : Value) (ts : List (List Img)) (t : List Img) (a : Option Addr) (c : Nat) (B : Nat) (h : TxnsR 39 95 w N v ts) (ht : w.ownsRow N 95 49 (.slice a t.length c) t.length (imgR t).flatten)
    (hB : RowC w B 39 [.slice a t.length c]) (hlen : ts.length ≤ 1000000) (hN : N ≤ w.heap.size) :
    ∃ v' w', (Builtin.append_ #[51, 51] 51 #[v, .slice (some ⟨B, 0, none⟩) 1 1]).run Try.prog w = .ok v' w' ∧ TxnsR 39 95 w' N v' (ts ++ [t]) ∧ w.grownBy w' v.ownBlock := by
  obtain ⟨i0, hi, hz0, hz1, hz2⟩ := info_parts info_slsR
  obtain ⟨vs, g1, g2, g3⟩ := h
  obtain ⟨v', w', hr, h1, h2, _⟩ := run_append_own (P := Try.prog) w N 51 51 39 i0 (.slice none 0 0) 1 24 Try.underlying51 hi hz0 hz1 hz2 rfl (by decide) v vs.length vs g2
    ⟨B, 0, none⟩ 1 1 [.slice a t.length c] rfl (fun j u hj => by have := hB.range j u hj; rwa [Addr.add_mid]) (fun u hu => by simp at hu; rw [hu]; rfl) (by unfold maxLen; omega) (by omega) hN
  have hk : ∀ {n : Nat} {u : Value} {xs : List Value}, w.ownsRow N 95 49 u n xs → w'.ownsRow N 95 49 u n xs := fun hu => hu.kept h2 (rows_ne hu g2 (by decide))
  refine ⟨v', w', hr, ⟨vs ++ [.slice a t.length c], by simp [g1], by simpa using h1, fun i u s hu hs => ?_⟩, h2⟩
  by_cases hi : i < vs.length
  · rw [List.getElem?_append_left hi] at hu
    rw [List.getElem?_append_left (by omega)] at hs
    exact hk (g3 i u s hu hs)
  · rw [List.getElem?_append_right (by omega)] at hu hs
    rw [g1] at hu
    cases hj : i - ts.length with
    | zero =>
      rw [hj] at hu hs
      simp at hu hs
      subst hu
      subst hs
      exact hk ht
    | succ j =>
      rw [hj] at hu
      simp at hu

-- ring.Image
set_option maxRecDepth 100000 in
theorem info_slsD : (Try.prog.info? 38).map (fun i => (i.zero, i.size, i.bytes)) = some (some (.slice none 0 0), 1, 24) := by kernel_rfl
set_option maxRecDepth 100000 in
theorem slice_slsD (w : World) (a : Option Addr) (n c : Nat) : (Instr.buildSlice 46 1 #[(0, .slice a n c)]).run Try.prog w = .ok (.slice (some ⟨w.heap.size, 0, none⟩) 1 1) (w.alloc (.cells #[.slice a n c] 38)) := by kernel_rfl
set_option maxRecDepth 100000 in
/-- A transaction appended to transactions. -/
theorem append_slsD (N : Nat) (w : World) (v : Value) (ts : List (List Img)) (t : List Img) (a : Option Addr) (c : Nat) (B : Nat) (h : TxnsR 38 81 w N v ts) (ht : w.ownsRow N 81 49 (.slice a t.length c) t.length (imgR t).flatten)
    (hB : RowC w B 38 [.slice a t.length c]) (hlen : ts.length ≤ 1000000) (hN : N ≤ w.heap.size) :
    ∃ v' w', (Builtin.append_ #[46, 46] 46 #[v, .slice (some ⟨B, 0, none⟩) 1 1]).run Try.prog w = .ok v' w' ∧ TxnsR 38 81 w' N v' (ts ++ [t]) ∧ w.grownBy w' v.ownBlock := by
  obtain ⟨i0, hi, hz0, hz1, hz2⟩ := info_parts info_slsD
  obtain ⟨vs, g1, g2, g3⟩ := h
  obtain ⟨v', w', hr, h1, h2, _⟩ := run_append_own (P := Try.prog) w N 46 46 38 i0 (.slice none 0 0) 1 24 Try.underlying46 hi hz0 hz1 hz2 rfl (by decide) v vs.length vs g2
    ⟨B, 0, none⟩ 1 1 [.slice a t.length c] rfl (fun j u hj => by have := hB.range j u hj; rwa [Addr.add_mid]) (fun u hu => by simp at hu; rw [hu]; rfl) (by unfold maxLen; omega) (by omega) hN
  have hk : ∀ {n : Nat} {u : Value} {xs : List Value}, w.ownsRow N 81 49 u n xs → w'.ownsRow N 81 49 u n xs := fun hu => hu.kept h2 (rows_ne hu g2 (by decide))
  refine ⟨v', w', hr, ⟨vs ++ [.slice a t.length c], by simp [g1], by simpa using h1, fun i u s hu hs => ?_⟩, h2⟩
  by_cases hi : i < vs.length
  · rw [List.getElem?_append_left hi] at hu
    rw [List.getElem?_append_left (by omega)] at hs
    exact hk (g3 i u s hu hs)
  · rw [List.getElem?_append_right (by omega)] at hu hs
    rw [g1] at hu
    cases hj : i - ts.length with
    | zero =>
      rw [hj] at hu hs
      simp at hu hs
      subst hu
      subst hs
      exact hk ht
    | succ j =>
      rw [hj] at hu
      simp at hu
end Go.Proofs.Ytfmgaakbfphpbaa

/- The document's Append. -/
namespace Go.Proofs.Ytfmgaakbfphpbaa
open Go.RowKit Go.Shelf
set_option linter.unusedVariables false
attribute [-simp] Try.isAgg59 Try.zeroValue59 Try.isAgg79 Try.zeroValue79 Try.isAgg102 Try.zeroValue102 Try.isAgg95 Try.zeroValue95
attribute [-go_sem] loadVar storeVar run_equalIn_agg
attribute [local go_sem] zero_blk build_blk zero_bod build_bod zero_sec zero_imgR loadVar_open5 storeVar_open5

/-- Cells of the k-th image. -/
theorem img_cells {w : World} {g : Nat} {t : List Img} (hg : w.rangeAt g 0 (imgR t).flatten) (hok : ∀ x ∈ t, x.Ok) {k : Nat} {x : Img} (hx : t[k]? = some x) : w.rangeAt g (k * 49) x.cells := by
  rw [Nat.mul_comm]
  have hl : ∀ (t : List Img), (∀ x ∈ t, x.Ok) → (imgR t).flatten.length = 49 * t.length := fun t => by
    induction t with
    | nil => intro _; rfl
    | cons y t ih =>
      intro h
      show (y.cells ++ (imgR t).flatten).length = _
      rw [List.length_append, ih (fun x hx => h x (List.mem_cons_of_mem _ hx)), Img.cells_length (h y List.mem_cons_self).len, List.length_cons]
      omega
  obtain ⟨hk, e⟩ := List.getElem?_eq_some_iff.1 hx
  have e1 : t = t.take k ++ x :: t.drop (k + 1) := by
    rw [← e, ← List.drop_eq_getElem_cons hk, List.take_append_drop]
  have e2 : (imgR t).flatten = (imgR (t.take k)).flatten ++ (x.cells ++ (imgR (t.drop (k + 1))).flatten) := by
    conv => lhs; rw [e1]
    unfold imgR
    rw [List.map_append, List.flatten_append]
    rfl
  have hl1 := hl (t.take k) (fun x hx => hok x (List.mem_of_mem_take hx))
  rw [List.length_take, Nat.min_eq_left (Nat.le_of_lt hk)] at hl1
  intro j u hj
  have hj' : j < x.cells.length := (List.getElem?_eq_some_iff.1 hj).1
  have := hg (49 * k + j) u (by
    rw [e2, List.getElem?_append_right (by omega), hl1, show 49 * k + j - 49 * k = j by omega, List.getElem?_append_left hj']
    exact hj)
  rwa [Nat.zero_add] at this

set_option maxRecDepth 100000 in
theorem store_secC {x : World} {B : Nat} {old : List Value} {p : Sct} (h : RowC x B 102 old) (ho : old.length = 51) (hp : p.body.length = 48) :
    ∃ y, (storeVar 102 ⟨B, 0, none⟩ (.agg p.cells.toArray)).run Try.prog x = .ok () y ∧ RowC y B 102 p.cells ∧ x.grownBy y (some B) := by
  have hl := Sct.cells_length hp
  refine ⟨_, run_storeVar_row x B _ _ old.toArray p.cells.toArray h (by simpa [hl] using size_sec) (by simp [hl, ho]) (all_oneCell_toArray (Sct.cells_one p)), setRow_heap x B _ _ _ _ h, ?_⟩
  exact ⟨rfl, rfl, rfl, by rw [setRow_size]; exact Nat.le_refl _, fun k _ hk => setRow_other x B k _ (fun e => hk (by rw [e]))⟩
theorem img_body {w : World} {g : Nat} {t : List Img} (hg : w.rangeAt g 0 (imgR t).flatten) (hok : ∀ x ∈ t, x.Ok) {k : Nat} {x : Img} (hx : t[k]? = some x) : w.rangeAt g (k * 49 + 1) (u8s x.body) := by
  intro j u hj
  have := img_cells hg hok hx (j + 1) u hj
  rwa [show k * 49 + (j + 1) = k * 49 + 1 + j by omega] at this

set_option maxRecDepth 100000 in
set_option maxHeartbeats 4000000 in
/-- **Append**. -/
theorem refAppend {rq q0 q1 : Nat} {S : RS} {w : World} {f : Nat → Prop} (h : RigQ rq q0 q1 S w f) (hu : S.Up) {m : Nat} (hf : S.Few m) (hm : m ≤ 250) (hd : 0 ≤ S.done ∧ S.done ≤ 900000) {F C A : Nat} (hC2 : 2 ≤ C) (hC : C ≤ 256) (hF : F + C ≤ S.n0) (hA : A < C) (hn : S.n0 ≤ 4096) {seq : Int} (hs : IsSeq seq)
    {t : List Img} (ht : TxnOk C t) {g c : Nat} (hg : w.rangeAt g 0 (imgR t).flatten) (hgl : g < w.heap.size) (hgf : ¬ f g) :
    Calls Try.prog 14 #[.pointer (some ⟨rq, 0, none⟩), .int .i64 (F : Int), .int .i64 (C : Int), .int .i64 (A : Int), .int .u32 seq, .slice (some ⟨g, 0, none⟩) t.length c] w fun e w' =>
      e = .returned (.tuple #[.int .i64 (((A + t.length + 1) % C : Nat) : Int), .int .i64 0]) ∧ ∃ f', RigQ rq q0 q1 (S.app F C A seq t).1 w' f' ∧ Turn f f' w w' := by
  have HM : Hid (Calls Try.prog 33 #[.pointer (some ⟨rq, 0, none⟩), .int .i64 (F : Int), .int .i64 (C : Int), .int .i64 (A : Int)] w fun e w' => e = .returned (.bool true) ∧ w' = w) := by
    have := refMay h F C A hn
    rw [show mayR S.n0 F C A = true by unfold mayR; simp; omega] at this
    exact this
  obtain ⟨n, hnn⟩ : ∃ n, t.length = n := ⟨_, rfl⟩
  have n1 := ht.least
  have n2 := ht.most
  rw [hnn] at n1 n2
  have HW : Hid (∀ k, RS.Way S (m + 2) (S.appTo F C A seq t k)) := fun k => RS.appTo_way hu hF hC ht.most hf hm k
  have HI : Hid (∀ (k : Nat) (x : Img), t[k]? = some x → S.appTo F C A seq t (k + 1) = (S.appTo F C A seq t k).write 0 ((F + (A + k) % C : Nat) : Int) (u8s (imgSct seq x).bytes)) := fun k x hx => RS.appTo_img hu hF (by omega) hx
  have HCM : Hid (S.appTo F C A seq t (n + 1) = ((S.appTo F C A seq t n).flush 0).write 0 ((F + (A + n) % C : Nat) : Int) (u8s (comSct seq n).bytes)) := by rw [← hnn]; exact RS.appTo_com
  have HE : Hid (S.app F C A seq t = ((S.appTo F C A seq t (n + 1)).flush 0, 0)) := by rw [← hnn]; exact RS.app_to hu hF hC ht.most hf hm
  have HT := Lib.hid ht
  have HG := Lib.hid hg
  have HGF := Lib.hid hgf
  have H0 : Hid (RigQ rq q0 q1 (S.appTo F C A seq t 0) w f) := by rw [RS.appTo_zero]; exact h
  have HSQ := Lib.hid hs
  have HD := Lib.hid hd
  rw [hnn]
  have g1 : decide ((n : Int) < 1) = false := by simp; omega
  have g2 : decide ((C : Int) - 1 < (n : Int)) = false := by simp; omega
  have g2' : decide ((n : Int) > (C : Int) - 1) = false := by simp; omega
  have HNN := Lib.hid hnn
  have HFN := Lib.hid hF
  clear h hu hf hd hF hs ht hg hgf hnn
  go_enter Try.func14, Try.ntmps14
  go_wp2_with fail
  go_at_call 33
  refine HM.out.mono ?_
  rintro e y ⟨rfl, rfl⟩
  go_wp2_with fail
  go_loopw [14] (fun i wr => ∃ k : Nat, k ≤ n ∧ i = .int .i64 (k : Int) ∧ wr = y) (fun i _ => n - (intOf i).toNat)
  case atStart => exact ⟨0, Nat.zero_le _, rfl, rfl⟩
  case round =>
    obtain ⟨k, hk, rfl, hwr⟩ := hrel
    have hwr := hwr.symm
    subst hwr
    by_cases hlt : k < n
    · have g3 : decide ((k : Int) < (n : Int)) = true := by simpa using hlt
      obtain ⟨x, hx⟩ : ∃ x, t[k]? = some x := ⟨_, List.getElem?_eq_getElem (by rw [HNN.out]; exact hlt)⟩
      have hfx := HT.out.fits x (List.mem_of_getElem? hx)
      have c0 : y.cell? ⟨g, k * 49, none⟩ = some (.int .i64 x.index) := img_cells HG.out HT.out.ok hx 0 _ rfl
      obtain ⟨ix, hix⟩ : ∃ n, x.index = n := ⟨_, rfl⟩
      rw [hix] at c0
      have g4 : decide (ix < 0) = false := by have := hfx.1; rw [hix] at this; simpa using this
      have g5 : decide (65535 < ix) = false := by have := hfx.2; rw [hix] at this; simpa using this
      have g6 : decide (ix > 65535) = false := g5
      clear hx hfx hix
      go_wp2_with fail
      go_roundw
      case rel => exact ⟨k + 1, hlt, by go_num, trivial⟩
      case measure => simp [intOf]; omega
    · have g3 : decide ((k : Int) < (n : Int)) = false := by simpa using hlt
      have g3' : decide (k < n) = false := by simpa using hlt
      go_wp2_with fail
      go_loopw [15, 17, 19, 20] (fun i _ _ _ wr' => ∃ (k : Nat) (f' : Nat → Prop), k ≤ n + 1 ∧ i = .int .i64 (k : Int) ∧ Hid (RigQ rq q0 q1 (S.appTo F C A seq t k) wr' f') ∧ Hid (Turn f f' y wr')) (fun i _ _ _ _ => n + 1 - (intOf i).toNat)
      case atStart => exact ⟨0, f, Nat.zero_le _, rfl, H0, Turn.refl _ _⟩
      case round =>
        obtain ⟨k, f1, hk1, rfl, HQ, HTU⟩ := hrel
        have hmx : Try.prog.follows .mixedOrders = true := by kernel_rfl
        rcases Nat.lt_trichotomy k n with hlt1 | he | hgt
        · have z1 : decide ((k : Int) ≤ (n : Int)) = true := by simp; omega
          have z1' : decide (k ≤ n) = true := by simp; omega
          have z2 : decide ((k : Int) < (n : Int)) = true := by simp; omega
          have z2' : decide (k < n) = true := by simp; omega
          obtain ⟨x, hx⟩ : ∃ x, t[k]? = some x := ⟨_, List.getElem?_eq_getElem (by rw [HNN.out]; exact hlt1)⟩
          have hxo := HT.out.ok x (List.mem_of_getElem? hx)
          have hxf := HT.out.fits x (List.mem_of_getElem? hx)
          have hg' := rangeAt_same HG.out (HTU.out.out g hgl HGF.out)
          have hgl' : g < wr.heap.size := Nat.lt_of_lt_of_le hgl HTU.out.size
          obtain ⟨x1, ST1, hr1, hb1⟩ := new_sec wr (comSct seq n) (by simp [comSct])
          have hg1 := range_below hb1 hgl' hg'
          have hgl1 : g < x1.heap.size := Nat.lt_of_lt_of_le hgl' hb1.size
          have C0 : ∀ z : Ext x1, z.1.cell? ⟨g, k * 49, none⟩ = some (.int .i64 x.index) := fun z => img_cells (range_below z.2 hgl1 hg1) HT.out.ok hx 0 _ rfl
          have L0 : ∀ z : Ext x1, (loadVar 79 ⟨g, k * 49 + 1, none⟩).run Try.prog z.1 = .ok (.agg (u8s x.body).toArray) z.1 := fun z => load_bod (img_body (range_below z.2 hgl1 hg1) HT.out.ok hx) (by rw [u8s_length]; exact hxo.len)
          have B0 : ∀ z : Ext x1, (Instr.build 102 #[(0, .int .u8 73), (1, .int .u32 seq), (2, .int .i64 x.index), (3, .agg (u8s x.body).toArray)]).run Try.prog z.1 = .ok (.agg (imgSct seq x).cells.toArray) z.1 := fun z => build_sec4 73 seq x.index (u8s x.body) (by rw [u8s_length]; exact hxo.len) z.1
          obtain ⟨X, hX⟩ : ∃ X, x1.drew = X := ⟨_, rfl⟩
          have hr2 : RowC X wr.heap.size 102 (comSct seq n).cells := by rw [← hX]; exact hr1
          have hbX : Below x1.heap.size x1 X := by rw [← hX]; exact (Below.refl _ x1).drew
          obtain ⟨x2, ST2, hr3, hg2⟩ := store_secC (p := imgSct seq x) hr2 (Sct.cells_length (by simp [comSct])) hxo.len
          have LD2 := hr3.sec (p := imgSct seq x) hxo.len
          have hb2 : Below wr.heap.size wr x2 := (hb1.trans (hbX.mono hb1.size)).grown hg2 (hb1.trans (hbX.mono hb1.size)).size (fun j e => by cases e; exact Nat.le_refl _)
          have e1 : (((zcs.set 0 (.int .u8 67)).set 1 (.int .u32 seq)).set 2 (.int .i64 (n : Int))) = (comSct seq n).cells := rfl
          rw [← e1] at ST1
          clear e1
          have BX : Hid ((Instr.build 102 #[(0, .int .u8 73), (1, .int .u32 seq), (2, .int .i64 x.index), (3, .agg (u8s x.body).toArray)]).run Try.prog X = .ok (.agg (imgSct seq x).cells.toArray) X) := B0 ⟨X, hbX⟩
          have HBX := Lib.hid hbX
          have HQ2 := Lib.hid (HQ.out.beside hb2)
          have HX := Lib.hid hx
          have HXO := Lib.hid hxo
          have HXF := Lib.hid hxf
          have HB2 := Lib.hid hb2
          clear hx hxo hxf hg' hgl' hr1 hb1 hg1 hgl1 hr2 hbX hr3 hg2 hb2 B0
          go_wp2_with fail
          refine region_plan (fun x => ∃ y : Ext x1, x = y.1) 12 (.takes [0, 1, 2, 3, 4, 5, 6, 7, 8, 9, 10] (.one 11 .leaf)) hmx (by kernel_rfl) (by intro c x v a w h; cases x <;> exact h) ⟨⟨x1.drew, (Below.refl _ x1).drew⟩, rfl⟩ ?_
          repeat (rw [wpPlan_takes_cons]; simp only [nth_zero, nth_succ]; go_big_quiet_step (fail); refine wpQuiet_nil ?_)
          rw [wpPlan_takes_nil, wpPlan_one]
          simp only [nth_zero, nth_succ]
          rw [hX]
          refine wpList_struct_run _ _ rfl rfl [(0, .int .u8 73), (1, .int .u32 seq), (2, .int .i64 x.index), (3, .agg (u8s x.body).toArray)] _ rfl BX.out ?_
          refine wpList_nil ?_
          refine planPost_mk ⟨⟨X, HBX.out⟩, rfl⟩ ?_
          rw [wpPlan_leaf]
          simp only [List.drop_succ_cons, List.drop_zero]
          clear C0 L0 BX
          go_wp2_with fail
          go_at_call 35
          have hfit : (imgSct seq x).fits = true := imgSct_fits HXF.out
          have HEN : Hid (Calls Try.prog 35 #[.agg (imgSct seq x).cells.toArray] x2 fun e w' => e = .returned (.tuple #[.agg (u8s (imgSct seq x).bytes).toArray, .int .i64 0]) ∧ Below x2.heap.size x2 w') := by
            have := refEncode (imgSct seq x) (imgSct_ok HSQ.out HXO.out) x2
            unfold Sct.code Sct.codeE at this
            rw [if_pos hfit, if_pos hfit] at this
            exact this
          refine HEN.out.mono ?_
          rintro e x3 ⟨rfl, hb3⟩
          have hbl : IsBlk (u8s (imgSct seq x).bytes) := isBlk_u8s (Sct.bytes_length (imgSct_ok HSQ.out HXO.out))
          obtain ⟨x4, ST4, hr4, hb4⟩ := new_blk x3 hbl
          have hb24 : Below x2.heap.size x2 x4 := hb3.trans (hb4.mono hb3.size)
          have HQ4 := Lib.hid (HQ2.out.beside hb24)
          have HB4 : Hid (Below wr.heap.size wr x4) := HB2.out.trans (hb24.mono HB2.out.size)
          have LB : ∀ z : Ext x4, (loadVar 59 ⟨x3.heap.size, 0, none⟩).run Try.prog z.1 = .ok (.agg (u8s (imgSct seq x).bytes).toArray) z.1 := fun z => (hr4.below z.2).blk (by rw [u8s_length]; exact Sct.bytes_length (imgSct_ok HSQ.out HXO.out))
          have HBL := Lib.hid hbl
          obtain ⟨i, hi⟩ : ∃ i, F + (A + k) % C = i := ⟨_, rfl⟩
          have hin : i < S.n0 := by have := Nat.mod_lt (A + k) (show 0 < C by omega); have := HFN.out; omega
          have hii : (F : Int) + ((A : Int) + (k : Int)) % (C : Int) = (i : Int) := by rw [← hi]; simp
          have hi4 : (i : Int) < 4096 := by omega
          have hCz : ¬ ((C : Int) = 0) := by omega
          have hway := HW.out k
          have HWR : Hid (Calls Try.prog 22 #[.pointer (some ⟨rq, 0, none⟩), .int .i64 0, .int .i64 (i : Int), .agg (u8s (imgSct seq x).bytes).toArray] x4.drew fun e w' => e = .returned (.int .i64 0) ∧ ∃ f', RigQ rq q0 q1 (S.appTo F C A seq t (k + 1)) w' f' ∧ Turn f1 f' x4.drew w') := by
            have hfit : (S.appTo F C A seq t k).Fit := RS.fit (by rw [hway.up.fuse]; decide) (by have := hway.d0; have := HD.out; omega) (by have := hway.d1; have := HD.out; omega)
            have := (HQ4.out.beside ((Below.refl _ x4).drew)).write hfit (hway.few.mono (by omega)) 0 (i : Int) HBL.out
            rw [show (S.appTo F C A seq t k).writeE 0 (i : Int) = 0 by unfold RS.writeE; rw [if_pos (RS.has0 (by rw [hway.n0]; exact hin)), if_pos hway.up.ok], ← hi, ← HI.out k x HX.out, hi] at this
            exact this
          have HT4 : Hid (Turn f f1 y x4.drew) := HTU.out.trans (Turn.of_below (HB4.out.trans (((Below.refl _ x4).drew).mono HB4.out.size)))
          clear hb3 hr4 hb4 hb24 hbl hfit HEN hway hi hin
          go_wp2_with fail
          refine region_plan (fun x => ∃ y : Ext x4, x = y.1) 9 (.takes [0, 1, 2, 3, 4, 5, 6, 7, 8] .leaf) hmx (by kernel_rfl) (by intro c x v a w h; cases x <;> exact h) ⟨⟨x4.drew, (Below.refl _ x4).drew⟩, rfl⟩ ?_
          repeat (rw [wpPlan_takes_cons]; simp only [nth_zero, nth_succ]; go_big_quiet_step (fail); refine wpQuiet_nil ?_)
          rw [wpPlan_takes_nil, wpPlan_leaf]
          simp only [List.drop_succ_cons, List.drop_zero]
          clear LB
          go_wp2_with fail
          go_at_call 22
          refine HWR.out.mono ?_
          rintro e x5 ⟨rfl, f5, g1, g2⟩
          have Q5 := Lib.hid g1
          have T5 := Lib.hid (HT4.out.trans g2)
          clear g1 g2
          have HLT := Lib.hid hlt1
          go_wp2_with fail
          go_roundw
          case rel => exact ⟨k + 1, f5, by have := HLT.out; omega, by go_num, Q5, T5⟩
          case measure => have := HLT.out; simp [intOf]; omega
        · subst he
          have z1 : decide ((k : Int) ≤ (k : Int)) = true := by simp
          have z2 : decide ((k : Int) < (k : Int)) = false := by simp
          have hgl' : g < wr.heap.size := Nat.lt_of_lt_of_le hgl HTU.out.size
          obtain ⟨x2, ST2, hr3, hb2⟩ := new_sec wr (comSct seq k) (by simp [comSct])
          have LD2 := hr3.sec (p := comSct seq k) (by simp [comSct])
          have e1 : (((zcs.set 0 (.int .u8 67)).set 1 (.int .u32 seq)).set 2 (.int .i64 (k : Int))) = (comSct seq k).cells := rfl
          rw [← e1] at ST2
          have hway := HW.out k
          have HQ2 := Lib.hid (HQ.out.beside hb2)
          have HFL : Hid (Calls Try.prog 34 #[.pointer (some ⟨rq, 0, none⟩), .int .i64 0] x2 fun e w' => e = .returned (.int .i64 0) ∧ ∃ f', RigQ rq q0 q1 ((S.appTo F C A seq t k).flush 0) w' f' ∧ Turn f1 f' x2 w') := by
            have hfit : (S.appTo F C A seq t k).Fit := RS.fit (by rw [hway.up.fuse]; decide) (by have := hway.d0; have := HD.out; omega) (by have := hway.d1; have := HD.out; omega)
            have := HQ2.out.flush hfit 0
            rw [show (S.appTo F C A seq t k).flushE 0 = 0 by unfold RS.flushE; rw [if_pos (.inl rfl), if_pos hway.up.ok]] at this
            exact this
          have HT2 : Hid (Turn f f1 y x2) := HTU.out.trans (Turn.of_below hb2)
          have HR2 := Lib.hid hr3
          have HLF : Hid (∀ j, f1 j → j < wr.heap.size) := (RigQ.isRes rq q0 q1 _).lt HQ.out
          have HBZ := Lib.hid hb2
          clear hgl' hr3 hb2 e1 hway HQ2
          go_wp2_with fail
          go_at_call 34
          refine HFL.out.mono ?_
          rintro e x3 ⟨rfl, f3, g1, g2⟩
          have HQ3 := Lib.hid g1
          have HT3 := Lib.hid (HT2.out.trans g2)
          have hr3 : RowC x3 wr.heap.size 102 (comSct seq k).cells := (g2.out _ HR2.out.lt (fun hh => Nat.lt_irrefl _ (HLF.out _ hh))).trans HR2.out
          have LD3 := hr3.sec (p := comSct seq k) (by simp [comSct])
          clear g1 g2 hr3 LD2 HFL
          go_wp2_with fail
          go_at_call 35
          have hfit : (comSct seq k).fits = true := comSct_fits (by omega)
          have HEN : Hid (Calls Try.prog 35 #[.agg (comSct seq k).cells.toArray] x3 fun e w' => e = .returned (.tuple #[.agg (u8s (comSct seq k).bytes).toArray, .int .i64 0]) ∧ Below x3.heap.size x3 w') := by
            have := refEncode (comSct seq k) (comSct_ok HSQ.out) x3
            unfold Sct.code Sct.codeE at this
            rw [if_pos hfit, if_pos hfit] at this
            exact this
          refine HEN.out.mono ?_
          rintro e x5 ⟨rfl, hb3⟩
          have hbl : IsBlk (u8s (comSct seq k).bytes) := isBlk_u8s (Sct.bytes_length (comSct_ok HSQ.out))
          obtain ⟨x4, ST4, hr4, hb4⟩ := new_blk x5 hbl
          have hb24 : Below x3.heap.size x3 x4 := hb3.trans (hb4.mono hb3.size)
          have HQ4 := Lib.hid (HQ3.out.beside hb24)
          have LB : ∀ z : Ext x4, (loadVar 59 ⟨x5.heap.size, 0, none⟩).run Try.prog z.1 = .ok (.agg (u8s (comSct seq k).bytes).toArray) z.1 := fun z => (hr4.below z.2).blk (by rw [u8s_length]; exact Sct.bytes_length (comSct_ok HSQ.out))
          have HBL := Lib.hid hbl
          obtain ⟨i, hi⟩ : ∃ i, F + (A + k) % C = i := ⟨_, rfl⟩
          have hin : i < S.n0 := by have := Nat.mod_lt (A + k) (show 0 < C by omega); have := HFN.out; omega
          have hii : (F : Int) + ((A : Int) + (k : Int)) % (C : Int) = (i : Int) := by rw [← hi]; simp
          have hi4 : (i : Int) < 4096 := by omega
          have hCz : ¬ ((C : Int) = 0) := by omega
          have hway := HW.out k
          have HWR : Hid (Calls Try.prog 22 #[.pointer (some ⟨rq, 0, none⟩), .int .i64 0, .int .i64 (i : Int), .agg (u8s (comSct seq k).bytes).toArray] x4.drew fun e w' => e = .returned (.int .i64 0) ∧ ∃ f', RigQ rq q0 q1 (S.appTo F C A seq t (k + 1)) w' f' ∧ Turn f3 f' x4.drew w') := by
            have hu2 := (hway.up.flush 0).1
            have hdn : (S.appTo F C A seq t k).done ≤ ((S.appTo F C A seq t k).flush 0).done ∧ ((S.appTo F C A seq t k).flush 0).done ≤ (S.appTo F C A seq t k).done + 1 := by
              rcases (hway.up.flush 0).2 with ⟨_, e⟩ | ⟨_, e⟩ <;> rw [e] <;> constructor <;> omega
            have hfit2 : ((S.appTo F C A seq t k).flush 0).Fit := RS.fit (by rw [hu2.fuse]; decide) (by have := hway.d0; have := HD.out; omega) (by have := hway.d1; have := HD.out; omega)
            have := (HQ4.out.beside ((Below.refl _ x4).drew)).write hfit2 ((RS.few_flush hway.few 0).mono (by omega)) 0 (i : Int) HBL.out
            rw [show ((S.appTo F C A seq t k).flush 0).writeE 0 (i : Int) = 0 by unfold RS.writeE; rw [if_pos (RS.has0 (by rw [(RS.flush0 _).1.n0, hway.n0]; exact hin)), if_pos hu2.ok], ← hi, ← HCM.out, hi] at this
            exact this
          have HT4 : Hid (Turn f f3 y x4.drew) := HT3.out.trans (Turn.of_below (hb24.trans (((Below.refl _ x4).drew).mono hb24.size)))
          clear hb3 hr4 hb4 hb24 hbl hfit HEN hway hi hin
          go_wp2_with fail
          refine region_plan (fun x => ∃ y : Ext x4, x = y.1) 9 (.takes [0, 1, 2, 3, 4, 5, 6, 7, 8] .leaf) hmx (by kernel_rfl) (by intro c x v a w h; cases x <;> exact h) ⟨⟨x4.drew, (Below.refl _ x4).drew⟩, rfl⟩ ?_
          repeat (rw [wpPlan_takes_cons]; simp only [nth_zero, nth_succ]; go_big_quiet_step (fail); refine wpQuiet_nil ?_)
          rw [wpPlan_takes_nil, wpPlan_leaf]
          simp only [List.drop_succ_cons, List.drop_zero]
          clear LB
          go_wp2_with fail
          go_at_call 22
          refine HWR.out.mono ?_
          rintro e x6 ⟨rfl, f6, g1, g2⟩
          have Q5 := Lib.hid g1
          have T5 := Lib.hid (HT4.out.trans g2)
          clear g1 g2
          go_wp2_with fail
          go_roundw
          case rel => exact ⟨k + 1, f6, by omega, by go_num, Q5, T5⟩
          case measure => simp [intOf]
        · have z1 : decide ((k : Int) ≤ (n : Int)) = false := by simp; omega
          have z1' : decide (k ≤ n) = false := by simp; omega
          obtain rfl : k = n + 1 := by omega
          have hway := HW.out (n + 1)
          have HFL : Hid (Calls Try.prog 34 #[.pointer (some ⟨rq, 0, none⟩), .int .i64 0] wr fun e w' => e = .returned (.int .i64 0) ∧ ∃ f', RigQ rq q0 q1 ((S.appTo F C A seq t (n + 1)).flush 0) w' f' ∧ Turn f1 f' wr w') := by
            have hfit : (S.appTo F C A seq t (n + 1)).Fit := RS.fit (by rw [hway.up.fuse]; decide) (by have := hway.d0; have := HD.out; omega) (by have := hway.d1; have := HD.out; omega)
            have := HQ.out.flush hfit 0
            rw [show (S.appTo F C A seq t (n + 1)).flushE 0 = 0 by unfold RS.flushE; rw [if_pos (.inl rfl), if_pos hway.up.ok]] at this
            exact this
          have hA2 : ((A : Int) + (n : Int) + 1) % (C : Int) = (((A + n + 1) % C : Nat) : Int) := by rw [Int.natCast_emod]; norm_cast
          have hCz : ¬ ((C : Int) = 0) := by omega
          clear hway
          go_wp2_with fail
          go_at_call 34
          refine HFL.out.mono ?_
          rintro e x3 ⟨rfl, f3, g1, g2⟩
          have HQ3 := Lib.hid g1
          have HT3 := Lib.hid (HTU.out.trans g2)
          clear g1 g2 HFL
          go_wp2_with fail
          go_ret2
          rw [HE.out]
          exact ⟨rfl, f3, HQ3.out, HT3.out⟩
end Go.Proofs.Ytfmgaakbfphpbaa

/- The document's Append, where it refuses. -/
namespace Go.Proofs.Ytfmgaakbfphpbaa
open Go.RowKit Go.Shelf
set_option linter.unusedVariables false
attribute [-simp] Try.isAgg59 Try.zeroValue59 Try.isAgg79 Try.zeroValue79 Try.isAgg102 Try.zeroValue102 Try.isAgg95 Try.zeroValue95
attribute [-go_sem] loadVar storeVar run_equalIn_agg
attribute [local go_sem] zero_blk build_blk zero_bod build_bod zero_sec zero_imgR loadVar_open5 storeVar_open5

set_option maxRecDepth 100000 in
set_option maxHeartbeats 2000000 in
/-- .. of no such ring. -/
theorem refAppend_no {rq q0 q1 : Nat} {S : RS} {w : World} {f : Nat → Prop} (h : RigQ rq q0 q1 S w f) (hn : S.n0 ≤ 4096) {frm count at0 seq : Int} (hm : mayR S.n0 frm count at0 = false) (v : Value) :
    Calls Try.prog 14 #[.pointer (some ⟨rq, 0, none⟩), .int .i64 frm, .int .i64 count, .int .i64 at0, .int .u32 seq, v] w fun e w' =>
      e = .returned (.tuple #[.int .i64 0, .int .i64 1]) ∧ w' = w := by
  have HM : Hid (Calls Try.prog 33 #[.pointer (some ⟨rq, 0, none⟩), .int .i64 frm, .int .i64 count, .int .i64 at0] w fun e w' => e = .returned (.bool false) ∧ w' = w) := by
    have := refMay h frm count at0 hn
    rw [hm] at this
    exact this
  clear h hm hn
  go_enter Try.func14, Try.ntmps14
  go_wp2_with fail
  go_at_call 33
  refine HM.out.mono ?_
  rintro e y ⟨rfl, rfl⟩
  go_wp2_with fail
  go_ret2
  exact ⟨rfl, rfl⟩

set_option maxRecDepth 100000 in
set_option maxHeartbeats 2000000 in
/-- .. of no pages, or too many. -/
theorem refAppend_long {rq q0 q1 : Nat} {S : RS} {w : World} {f : Nat → Prop} (h : RigQ rq q0 q1 S w f) (hn : S.n0 ≤ 4096) {F C A : Nat} (hC2 : 2 ≤ C) (hC : C ≤ 256) (hF : F + C ≤ S.n0) (hA : A < C) {seq : Int} {ra : Option Addr} {n c : Nat} (hl : n < 1 ∨ C < n + 1) (hnb : n ≤ 1000000) :
    Calls Try.prog 14 #[.pointer (some ⟨rq, 0, none⟩), .int .i64 (F : Int), .int .i64 (C : Int), .int .i64 (A : Int), .int .u32 seq, .slice ra n c] w fun e w' =>
      e = .returned (.tuple #[.int .i64 0, .int .i64 2]) ∧ w' = w := by
  have HM : Hid (Calls Try.prog 33 #[.pointer (some ⟨rq, 0, none⟩), .int .i64 (F : Int), .int .i64 (C : Int), .int .i64 (A : Int)] w fun e w' => e = .returned (.bool true) ∧ w' = w) := by
    have := refMay h F C A hn
    rw [show mayR S.n0 F C A = true by unfold mayR; simp; omega] at this
    exact this
  clear h hF hn hA
  by_cases h1 : n < 1
  · obtain rfl : n = 0 := by omega
    clear h1 hl hnb
    go_enter Try.func14, Try.ntmps14
    go_wp2_with fail
    go_at_call 33
    refine HM.out.mono ?_
    rintro e y ⟨rfl, rfl⟩
    go_wp2_with fail
    go_ret2
    exact ⟨rfl, rfl⟩
  · have g1 : decide ((n : Int) < 1) = false := by simp; omega
    have g2 : decide ((C : Int) - 1 < (n : Int)) = true := by simp; omega
    have g2' : decide ((n : Int) > (C : Int) - 1) = true := g2
    go_enter Try.func14, Try.ntmps14
    go_wp2_with fail
    go_at_call 33
    refine HM.out.mono ?_
    rintro e y ⟨rfl, rfl⟩
    go_wp2_with fail
    go_ret2
    exact ⟨rfl, rfl⟩

set_option maxRecDepth 100000 in
set_option maxHeartbeats 2000000 in
/-- .. of a page that may not be. -/
theorem refAppend_bad {rq q0 q1 : Nat} {S : RS} {w : World} {f : Nat → Prop} (h : RigQ rq q0 q1 S w f) (hn : S.n0 ≤ 4096) {F C A : Nat} (hC2 : 2 ≤ C) (hC : C ≤ 256) (hF : F + C ≤ S.n0) (hA : A < C) {seq : Int} {t : List Img} (n1 : 1 ≤ t.length) (n2 : t.length + 1 ≤ C) (hok : ∀ x ∈ t, x.Ok) (hbad : ¬ ∀ x ∈ t, x.fits) {g c : Nat} (hg : w.rangeAt g 0 (imgR t).flatten) :
    Calls Try.prog 14 #[.pointer (some ⟨rq, 0, none⟩), .int .i64 (F : Int), .int .i64 (C : Int), .int .i64 (A : Int), .int .u32 seq, .slice (some ⟨g, 0, none⟩) t.length c] w fun e w' =>
      e = .returned (.tuple #[.int .i64 0, .int .i64 1]) ∧ w' = w := by
  have HM : Hid (Calls Try.prog 33 #[.pointer (some ⟨rq, 0, none⟩), .int .i64 (F : Int), .int .i64 (C : Int), .int .i64 (A : Int)] w fun e w' => e = .returned (.bool true) ∧ w' = w) := by
    have := refMay h F C A hn
    rw [show mayR S.n0 F C A = true by unfold mayR; simp; omega] at this
    exact this
  obtain ⟨n, hnn⟩ : ∃ n, t.length = n := ⟨_, rfl⟩
  rw [hnn] at n1 n2 ⊢
  have HNN := Lib.hid hnn
  have HOK := Lib.hid hok
  have HBAD := Lib.hid hbad
  have HG := Lib.hid hg
  have g1 : decide ((n : Int) < 1) = false := by simp; omega
  have g2 : decide ((C : Int) - 1 < (n : Int)) = false := by simp; omega
  have g2' : decide ((n : Int) > (C : Int) - 1) = false := g2
  clear h hF hn hA hnn hok hbad hg
  go_enter Try.func14, Try.ntmps14
  go_wp2_with fail
  go_at_call 33
  refine HM.out.mono ?_
  rintro e y ⟨rfl, rfl⟩
  go_wp2_with fail
  go_loopw [14] (fun i wr => ∃ k : Nat, k ≤ n ∧ i = .int .i64 (k : Int) ∧ wr = y ∧ Hid (∀ j x, j < k → t[j]? = some x → x.fits)) (fun i _ => n - (intOf i).toNat)
  case atStart => exact ⟨0, Nat.zero_le _, rfl, rfl, fun j x h => absurd h (Nat.not_lt_zero _)⟩
  case round =>
    obtain ⟨k, hk, rfl, hwr, HK⟩ := hrel
    have hwr := hwr.symm
    subst hwr
    by_cases hlt : k < n
    · have g3 : decide ((k : Int) < (n : Int)) = true := by simpa using hlt
      obtain ⟨x, hx⟩ : ∃ x, t[k]? = some x := ⟨_, List.getElem?_eq_getElem (by rw [HNN.out]; exact hlt)⟩
      have c0 : y.cell? ⟨g, k * 49, none⟩ = some (.int .i64 x.index) := img_cells HG.out HOK.out hx 0 _ rfl
      obtain ⟨ix, hix⟩ : ∃ n, x.index = n := ⟨_, rfl⟩
      rw [hix] at c0
      by_cases hb1 : ix < 0
      · have g4 : decide (ix < 0) = true := by simpa using hb1
        clear hx hix
        go_wp2_with fail
        go_ret2
        exact ⟨rfl, rfl⟩
      · have g4 : decide (ix < 0) = false := by simpa using hb1
        by_cases hb2 : 65535 < ix
        · have g5 : decide (65535 < ix) = true := by simpa using hb2
          have g6 : decide (ix > 65535) = true := g5
          clear hx hix
          go_wp2_with fail
          go_ret2
          exact ⟨rfl, rfl⟩
        · have g5 : decide (65535 < ix) = false := by simpa using hb2
          have g6 : decide (ix > 65535) = false := g5
          have HK2 : Hid (∀ j x, j < k + 1 → t[j]? = some x → x.fits) := fun j z hj hz => by
            rcases Nat.lt_or_ge j k with h | h
            · exact HK.out j z h hz
            · obtain rfl : j = k := by omega
              rw [hx] at hz
              cases hz
              exact ⟨by omega, by omega⟩
          clear hx hix
          go_wp2_with fail
          go_roundw
          case rel => exact ⟨k + 1, hlt, by go_num, trivial, HK2⟩
          case measure => simp [intOf]; omega
    · exfalso
      refine HBAD.out fun x hx => ?_
      obtain ⟨j, hj⟩ := List.mem_iff_getElem?.1 hx
      exact HK.out j x (by have := (List.getElem?_eq_some_iff.1 hj).1; rw [HNN.out] at this; omega) hj
end Go.Proofs.Ytfmgaakbfphpbaa

/- The document's Replay. -/
namespace Go.Proofs.Ytfmgaakbfphpbaa
open Go.RowKit Go.Shelf
set_option linter.unusedVariables false
attribute [-simp] Try.isAgg59 Try.zeroValue59 Try.isAgg79 Try.zeroValue79 Try.isAgg102 Try.zeroValue102 Try.isAgg95 Try.zeroValue95
attribute [-go_sem] loadVar storeVar run_equalIn_agg
attribute [local go_sem] zero_blk build_blk zero_bod build_bod zero_sec zero_imgR 

def logC (v : Value) (a : Nat) (q e : Int) : List Value := [v, .int .i64 (a : Int), .int .u32 q, .int .i64 e]

theorem oneGo_len {g : Nat → List Int} {seq : Int} {t : List Img} : ∀ (f k : Nat) (acc : List Img), acc.length = k → oneGo g seq f k acc = some t → t.length < k + f
  | 0, k, acc, ha, h => by simp [oneGo] at h
  | f + 1, k, acc, ha, h => by
    unfold oneGo at h
    split at h
    · simp at h
    · split at h
      · split at h
        · simp at h
        · cases h; omega
      · split at h
        · simp at h
        · have := oneGo_len f (k + 1) _ (by simp [ha]) h
          omega
theorem oneS_len {rd : Nat → List Int} {frm count at0 : Nat} {seq : Int} {t : List Img} (h : oneS rd frm count at0 seq = some t) : t.length < count := by
  have := oneGo_len count 0 [] rfl h
  omega
/-- Whatever is no block, no body, no document's sector and no log is read and written cell by cell. -/
theorem loadVar_openL (t : TypeId) (h : t ≠ 59 ∧ t ≠ 79 ∧ t ≠ 102 ∧ t ≠ 53) (a : Addr) : loadVar t a = (do if ← isAgg t then pure (.agg (← loadCells a (← sizeOf t))) else load a) := rfl
theorem storeVar_openL (t : TypeId) (h : t ≠ 59 ∧ t ≠ 102 ∧ t ≠ 53) (a : Addr) (v : Value) : storeVar t a v = (do
    if v.cells.size ≠ (← sizeOf t) then stuck "storeVar: the value has not the size of the variable"
    storeCells a v.cells.toList) := rfl
attribute [local go_sem] loadVar_openL storeVar_openL
set_option maxRecDepth 100000 in
theorem size_log : (Try.prog.info? 53).map (·.size) = some 4 := by kernel_rfl
set_option maxRecDepth 100000 in
theorem store_log {x : World} {B a : Nat} {old : List Value} {v : Value} {q e : Int} (h : RowC x B 53 old) (ho : old.length = 4) (hv : v.oneCell' = true) :
    ∃ y, (storeVar 53 ⟨B, 0, none⟩ (.agg (logC v a q e).toArray)).run Try.prog x = .ok () y ∧ RowC y B 53 (logC v a q e) ∧ x.grownBy y (some B) := by
  refine ⟨_, run_storeVar_row x B _ _ old.toArray (logC v a q e).toArray h size_log (by simpa [logC] using ho) (by simp [logC, hv]; exact ⟨rfl, rfl, rfl⟩), setRow_heap x B _ _ _ _ h, ?_⟩
  exact ⟨rfl, rfl, rfl, by rw [setRow_size]; exact Nat.le_refl _, fun k _ hk => setRow_other x B k _ (fun e => hk (by rw [e]))⟩
set_option maxRecDepth 100000 in
theorem eq_nil (x : World) : (binOp .eql 39 (.slice none 0 0) (.slice none 0 0)).run Try.prog x = .ok (.bool true) x := by kernel_rfl
set_option maxRecDepth 100000 in
theorem eq_nil_some (g : Addr) (n c : Nat) (x : World) : (binOp .eql 39 (.slice (some g) n c) (.slice none 0 0)).run Try.prog x = .ok (.bool false) x := by kernel_rfl
set_option maxRecDepth 100000 in
theorem store_newL {w : World} {a b c d a' b' c' d' : Value} (h : a'.oneCell' = true ∧ b'.oneCell' = true ∧ c'.oneCell' = true ∧ d'.oneCell' = true) :
    (storeVar 53 ⟨w.heap.size, 0, none⟩ (.agg #[a', b', c', d'])).run Try.prog (w.alloc (.cells #[a, b, c, d] 53)) = .ok () (w.alloc (.cells #[a', b', c', d'] 53)) :=
  run_storeVar_new w _ _ #[a', b', c', d'] size_log rfl (by simp [h])
set_option maxRecDepth 100000 in
theorem load_log {x : World} {B a : Nat} {t : TypeId} {v : Value} {q e : Int} (h : RowC x B t (logC v a q e)) : (loadVar 53 ⟨B, 0, none⟩).run Try.prog x = .ok (.agg (logC v a q e).toArray) x :=
  run_loadVar_mid x B 0 _ (logC v a q e) _ h.range Try.underlying53 rfl (by kernel_rfl)

set_option maxRecDepth 100000 in
set_option maxHeartbeats 2000000 in
/-- **Replay**, of no such ring. -/
theorem refReplay_no {rq q0 q1 : Nat} {S : RS} {w : World} {f : Nat → Prop} (h : RigQ rq q0 q1 S w f) (hn : S.n0 ≤ 4096) {frm count at0 seq : Int} (hm : mayR S.n0 frm count at0 = false) :
    Calls Try.prog 16 #[.pointer (some ⟨rq, 0, none⟩), .int .i64 frm, .int .i64 count, .int .i64 at0, .int .u32 seq] w fun e w' =>
      e = .returned (.agg (logC (.slice none 0 0) 0 0 1).toArray) ∧ Below w.heap.size w w' := by
  have HM : Hid (∀ x : World, Below w.heap.size w x → Calls Try.prog 33 #[.pointer (some ⟨rq, 0, none⟩), .int .i64 frm, .int .i64 count, .int .i64 at0] x fun e w' => e = .returned (.bool false) ∧ w' = x) := fun x hx => by
    have := refMay (h.beside hx) frm count at0 hn
    rwa [hm] at this
  clear h hm hn
  go_enter Try.func16, Try.ntmps16
  go_wp2_with fail
  go_at_call 33
  refine (HM.out _ (below_new w _)).mono ?_
  rintro e y ⟨rfl, rfl⟩
  have ST := store_newL (w := w) (a := .slice none 0 0) (b := .int .i64 0) (c := .int .u32 0) (d := .int .i64 0) (a' := .slice none 0 0) (b' := .int .i64 0) (c' := .int .u32 0) (d' := .int .i64 1) ⟨rfl, rfl, rfl, rfl⟩
  go_wp2_with fail
  refine bodyPost_ret (results_cell rfl rfl (load_log (by exact RowC.new w 53 _))) rfl ⟨rfl, below_new w _⟩

theorem own_from {x : World} {N M e sz n : Nat} {v : Value} {xs : List Value} (h : x.ownsRow M e sz v n xs) (hN : N ≤ M) : x.ownsRow N e sz v n xs := by
  refine ⟨h.1, ?_⟩
  rcases h.2 with h' | ⟨g, cap, cur, rfl, a1, a2⟩
  · exact .inl h'
  · exact .inr ⟨g, cap, cur, rfl, Nat.le_trans hN a1, a2⟩
def lenAt (x : World) (B : Nat) : Nat := match x.cell? ⟨B, 0, none⟩ with | some (.slice _ n _) => n | _ => 0

set_option maxRecDepth 100000 in
set_option maxHeartbeats 4000000 in
/-- **Replay**. -/
theorem refReplay {rq q0 q1 : Nat} {S : RS} {w : World} {f : Nat → Prop} (h : RigQ rq q0 q1 S w f) (hby : S.Byt) (hup : S.down = false) {F C A : Nat} (hC2 : 2 ≤ C) (hC : C ≤ 256) (hF : F + C ≤ S.n0) (hA : A < C) (hn : S.n0 ≤ 4096) {seq : Int} (hs : IsSeq seq) :
    Calls Try.prog 16 #[.pointer (some ⟨rq, 0, none⟩), .int .i64 (F : Int), .int .i64 (C : Int), .int .i64 (A : Int), .int .u32 seq] w fun e w' =>
      (∃ v, e = .returned (.agg (logC v (repS S.rd F C A seq).2.1 (repS S.rd F C A seq).2.2 0).toArray) ∧ TxnsR 39 95 w' w.heap.size v (repS S.rd F C A seq).1) ∧ Below w.heap.size w w' := by
  obtain ⟨res, hres⟩ : ∃ res, repS S.rd F C A seq = res := ⟨_, rfl⟩
  have HR : Hid (repGo S.rd F C C A seq [] = res) := hres
  rw [hres]
  have HM : Hid (∀ x : World, Below w.heap.size w x → Calls Try.prog 33 #[.pointer (some ⟨rq, 0, none⟩), .int .i64 (F : Int), .int .i64 (C : Int), .int .i64 (A : Int)] x fun e w' => e = .returned (.bool true) ∧ w' = x) := fun x hx => by
    have := refMay (h.beside hx) F C A hn
    rwa [show mayR S.n0 F C A = true by unfold mayR; simp; omega] at this
  have HO : Hid (∀ (x : World) (A' : Nat) (q : Int), Below w.heap.size w x → A' < C → IsSeq q → Calls Try.prog 40 #[.pointer (some ⟨rq, 0, none⟩), .int .i64 (F : Int), .int .i64 (C : Int), .int .i64 (A' : Int), .int .u32 q] x fun e w' =>
      (∃ v, e = .returned (.tuple #[v, .int .i64 0]) ∧ (match oneS S.rd F C A' q with | none => v = .slice none 0 0 | some t => 0 < t.length ∧ w'.ownsRow x.heap.size 95 49 v t.length (imgR t).flatten)) ∧ Below x.heap.size x w') := fun x A' q hx hA' hq => refOne (h.beside hx) hby hup hC2 hC hF hA' hn hq
  have HSQ := Lib.hid hs
  clear h hby hup hs hres hF hn
  go_enter Try.func16, Try.ntmps16
  go_wp2_with fail
  go_at_call 33
  refine (HM.out _ (below_new w _)).mono ?_
  rintro e y ⟨rfl, rfl⟩
  have ST := store_newL (w := w.alloc (.cells #[.slice none 0 0, .int .i64 0, .int .u32 0, .int .i64 0] 53)) (a := .slice none 0 0) (b := .int .i64 0) (c := .int .u32 0) (d := .int .i64 0) (a' := .slice none 0 0) (b' := .int .i64 (A : Int)) (c' := .int .u32 seq) (d' := .int .i64 0) ⟨rfl, rfl, rfl, rfl⟩
  rw [show (w.alloc (.cells #[.slice none 0 0, .int .i64 0, .int .u32 0, .int .i64 0] 53)).heap.size = w.heap.size + 1 from Array.size_push _] at ST
  go_wp2_with fail
  clear ST
  obtain ⟨W, hW⟩ : ∃ W, ((w.alloc (.cells #[.slice none 0 0, .int .i64 0, .int .u32 0, .int .i64 0] 53)).alloc (.cells #[.slice none 0 0, .int .i64 (A : Int), .int .u32 seq, .int .i64 0] 53)) = W := ⟨_, rfl⟩
  have hb0 := below_new w (.cells #[.slice none 0 0, .int .i64 0, .int .u32 0, .int .i64 0] 53)
  have hb1 := hb0.trans ((below_new _ (.cells #[.slice none 0 0, .int .i64 (A : Int), .int .u32 seq, .int .i64 0] 53)).mono hb0.size)
  rw [hW] at hb1
  have r0 : RowC W w.heap.size 53 (logC (.slice none 0 0) 0 0 0) := by
    rw [← hW]
    exact (RowC.new w 53 _).below (below_new _ _)
  have r1 : RowC W (w.heap.size + 1) 53 (logC (.slice none 0 0) A seq 0) := by
    rw [← hW]
    have := RowC.new (w.alloc (.cells #[.slice none 0 0, .int .i64 0, .int .u32 0, .int .i64 0] 53)) 53 (logC (.slice none 0 0) A seq 0)
    rwa [show (w.alloc (.cells #[.slice none 0 0, .int .i64 0, .int .u32 0, .int .i64 0] 53)).heap.size = w.heap.size + 1 from Array.size_push _] at this
  have R0 := Lib.hid r0
  have R1 := Lib.hid r1
  have B1 := Lib.hid hb1
  clear r0 r1 hb0 hb1
  obtain ⟨B, hB⟩ : ∃ B, w.heap.size + 1 = B := ⟨_, rfl⟩
  rw [hB] at R1
  rw [hW, hB]
  have hne : w.heap.size ≠ B := by omega
  have hBw : w.heap.size ≤ B := by omega
  clear hW hB
  go_loopw [12, 13] (fun _ _ wr => ∃ (ts : List (List Img)) (A' : Nat) (q : Int) (v : Value), ts.length ≤ C ∧ A' < C ∧ Hid (IsSeq q) ∧ Hid (RowC wr w.heap.size 53 (logC (.slice none 0 0) 0 0 0)) ∧ Hid (RowC wr B 53 (logC v A' q 0)) ∧ Hid (TxnsR 39 95 wr w.heap.size v ts) ∧ Hid (Below w.heap.size w wr) ∧ Hid (repGo S.rd F C (C - ts.length) A' q ts = res)) (fun _ _ wr => C - lenAt wr B)
  case atStart => exact ⟨[], A, seq, _, Nat.zero_le _, hA, HSQ, R0, R1, TxnsR.nil _ _ _ _, B1, HR⟩
  case round =>
    obtain ⟨ts, A', q, v, hk, hA', HQ, HZ, HL, HT, HB, HG⟩ := hrel
    obtain ⟨vs, hvl, hvo, hvt⟩ := HT.out
    obtain ⟨ra, c, rfl, hra⟩ := row_lenT hvo
    rw [hvl] at HL HT hvo hra
    have c0 : wr.cell? ⟨B, 0, none⟩ = some (.slice ra ts.length c) := HL.out.cell 0 _ rfl
    have c1 : wr.cell? ⟨B, 1, none⟩ = some (.int .i64 (A' : Int)) := HL.out.cell 1 _ rfl
    have c2 : wr.cell? ⟨B, 2, none⟩ = some (.int .u32 q) := HL.out.cell 2 _ rfl
    clear hvo hvt hra
    have HLN : Hid (lenAt wr B = ts.length) := by show lenAt wr B = _; unfold lenAt; rw [c0]
    by_cases hlt : ts.length < C
    · have g2 : decide ((ts.length : Int) < (C : Int)) = true := by simp; omega
      go_wp2_with fail
      go_at_call 40
      refine (HO.out wr A' q HB.out hA' HQ.out).mono ?_
      rintro e x1 ⟨⟨u, rfl, hu⟩, hb⟩
      have B2 : Hid (Below w.heap.size w x1) := HB.out.trans (hb.mono HB.out.size)
      have hwr := HB.out.size
      have HZ1 := Lib.hid (HZ.out.below hb)
      have HL1 := Lib.hid (HL.out.below hb)
      have HT1 := Lib.hid (HT.out.below hb)
      have hgo := HG.out
      rw [show C - ts.length = (C - ts.length - 1) + 1 by omega] at hgo
      unfold repGo at hgo
      clear hb HB HZ HL HT HG HO c0 c1 c2
      have c0 : x1.cell? ⟨B, 0, none⟩ = some (.slice ra ts.length c) := HL1.out.cell 0 _ rfl
      have c1 : x1.cell? ⟨B, 1, none⟩ = some (.int .i64 (A' : Int)) := HL1.out.cell 1 _ rfl
      have c2 : x1.cell? ⟨B, 2, none⟩ = some (.int .u32 q) := HL1.out.cell 2 _ rfl
      cases ho : oneS S.rd F C A' q with
      | none =>
        rw [ho] at hu hgo
        subst hu
        simp only at hgo
        subst hgo
        clear ho
        have LL := load_log HL1.out
        obtain ⟨y, ST, hy, hg⟩ := store_log (v := .slice ra ts.length c) (a := A') (q := q) (e := 0) HZ1.out rfl rfl
        have LY := load_log hy
        have hty : Hid (TxnsR 39 95 y w.heap.size (.slice ra ts.length c) ts) := HT1.out.grownC HZ1.out (by decide) (by decide) hg
        have hby : Hid (Below w.heap.size w y) := B2.out.grown hg B2.out.size (fun j e => by cases e; exact Nat.le_refl _)
        clear hg
        have EN := eq_nil x1
        go_wp2_with fail
        refine bodyPost_ret (results_cell rfl rfl LY) rfl ⟨⟨_, rfl, hty.out⟩, hby.out⟩
      | some t =>
        rw [ho] at hu hgo
        obtain ⟨ht0, hu⟩ := hu
        obtain ⟨rb, cb, rfl, hrb⟩ := row_lenT hu
        obtain ⟨g, rfl, -, -⟩ := hrb ht0
        simp only at hgo
        have htl := oneS_len ho
        have EN := eq_nil_some ⟨g, 0, none⟩ t.length cb x1
        obtain ⟨x2, hx2⟩ : ∃ x, x1.alloc (.cells #[.slice (some ⟨g, 0, none⟩) t.length cb] 39) = x := ⟨_, rfl⟩
        have SB : Hid ((Instr.buildSlice 51 1 #[(0, .slice (some ⟨g, 0, none⟩) t.length cb)]).run Try.prog x1 = .ok (.slice (some ⟨x1.heap.size, 0, none⟩) 1 1) x2) := by show _ = _; rw [← hx2]; exact slice_slsR x1 _ _ _
        have b2 : Below x1.heap.size x1 x2 := by rw [← hx2]; exact below_new x1 _
        have rN : RowC x2 x1.heap.size 39 [.slice (some ⟨g, 0, none⟩) t.length cb] := by rw [← hx2]; exact RowC.new x1 _ _
        have B3 : Below w.heap.size w x2 := B2.out.trans (b2.mono B2.out.size)
        obtain ⟨v', x3, r3, t3, g3⟩ := append_slsR w.heap.size x2 _ ts t _ cb x1.heap.size (HT1.out.below b2) (own_from (own_belowT hu b2) hwr) rN (by omega) B3.size
        have hown : ∀ j, (Value.slice ra ts.length c).ownBlock = some j → w.heap.size ≤ j := by
          obtain ⟨_, _, hv1, _⟩ := HT1.out
          intro j e
          rcases hv1.2 with ⟨h0, _⟩ | ⟨g0, cap, cur, h0, h1, _⟩
          · rw [h0] at e; simp [Value.ownBlock] at e
          · rw [h0] at e; simp [Value.ownBlock] at e; omega
        have hneB : (Value.slice ra ts.length c).ownBlock ≠ some B := by
          obtain ⟨_, _, hv1, _⟩ := HT1.out
          exact row_ne hv1 HL1.out (by decide)
        have hneZ : (Value.slice ra ts.length c).ownBlock ≠ some w.heap.size := by
          obtain ⟨_, _, hv1, _⟩ := HT1.out
          exact row_ne hv1 HZ1.out (by decide)
        have B4 : Below w.heap.size w x3 := B3.grown g3 B3.size hown
        have L3 := (HL1.out.below b2).grown g3 hneB
        have Z3 := (HZ1.out.below b2).grown g3 hneZ
        have hvv : ∃ ra' c', v' = .slice ra' (ts.length + 1) c' := by
          obtain ⟨vs', hv1, hv2, _⟩ := t3
          obtain ⟨ra', c', rfl, -⟩ := row_lenT hv2
          rw [hv1, List.length_append]
          exact ⟨ra', c', rfl⟩
        obtain ⟨ra', c', rfl⟩ := hvv
        have R3 := Lib.hid r3
        have hA2 : ((A' : Int) + (t.length : Int) + 1) % (C : Int) = (((A' + t.length + 1) % C : Nat) : Int) := by rw [Int.natCast_emod]; norm_cast
        obtain ⟨A2, hA2'⟩ : ∃ n, (A' + t.length + 1) % C = n := ⟨_, rfl⟩
        have hA2l : A2 < C := by rw [← hA2']; exact Nat.mod_lt _ (by omega)
        obtain ⟨q2, hq2⟩ : ∃ n, (q + 1) % 4294967296 = n := ⟨_, rfl⟩
        have hq2s : Hid (IsSeq q2) := by show IsSeq q2; unfold IsSeq; omega
        rw [hA2'] at hA2 hgo
        rw [hq2] at hgo
        obtain ⟨x4, hx4⟩ : ∃ x, x3.setCell ⟨B, 0, none⟩ (.slice ra' (ts.length + 1) c') = x := ⟨_, rfl⟩
        obtain ⟨x5, hx5⟩ : ∃ x, x4.setCell ⟨B, 1, none⟩ (.int .i64 (A2 : Int)) = x := ⟨_, rfl⟩
        obtain ⟨x6, hx6⟩ : ∃ x, x5.setCell ⟨B, 2, none⟩ (.int .u32 q2) = x := ⟨_, rfl⟩
        have L4 : RowC x4 B 53 (logC (.slice ra' (ts.length + 1) c') A' q 0) := by rw [← hx4]; exact L3.set 0 _
        have L5 : RowC x5 B 53 (logC (.slice ra' (ts.length + 1) c') A2 q 0) := by rw [← hx5]; exact L4.set 1 _
        have L6 : RowC x6 B 53 (logC (.slice ra' (ts.length + 1) c') A2 q2 0) := by rw [← hx6]; exact L5.set 2 _
        have G4 : x3.grownBy x4 (some B) := by rw [← hx4]; exact grownBy_setCellJ x3 B 0 _
        have G5 : x4.grownBy x5 (some B) := by rw [← hx5]; exact grownBy_setCellJ x4 B 1 _
        have G6 : x5.grownBy x6 (some B) := by rw [← hx6]; exact grownBy_setCellJ x5 B 2 _
        have G := (G4.trans G5).trans G6
        have T6 := Lib.hid (t3.grownC L3 (by decide) (by decide) G)
        have B6 : Hid (Below w.heap.size w x6) := B4.grown G B4.size (fun j e => by cases e; exact hBw)
        have Z6 := Lib.hid (Z3.grown G (by simpa using fun e => hne e.symm))
        have L6' := Lib.hid L6
        have d0 : x3.cell? ⟨B, 0, none⟩ = some (.slice ra ts.length c) := L3.cell 0 _ rfl
        have d0' := L3.frozen 0
        have d1 : x4.cell? ⟨B, 1, none⟩ = some (.int .i64 (A' : Int)) := L4.cell 1 _ rfl
        have d1' := L4.frozen 1
        have d2 : x5.cell? ⟨B, 2, none⟩ = some (.int .u32 q) := L5.cell 2 _ rfl
        have d2' := L5.frozen 2
        have hln : lenAt x6 B = ts.length + 1 := by unfold lenAt; rw [L6.cell 0 _ rfl]
        have hln0 : Hid (lenAt wr B = ts.length) := HLN
        have HGO := Lib.hid hgo
        clear ho hu hrb b2 rN B3 r3 t3 g3 hown hneB hneZ B4 L3 Z3 L4 L5 L6 G4 G5 G6 G hgo HL1 HZ1 HT1 B2
        go_wp2_with (first | ((with_reducible refine gate_build ?_); refine wpList_build_run _ _ _ rfl rfl [(0, .slice (some ⟨g, 0, none⟩) t.length cb)] _ rfl SB.out ?_) | (at_builtin; refine wpList_append_run (.tmp 48) (.tmp 50) 51 rfl rfl _ _ _ rfl rfl R3.out ?_))
        refine ⟨⟨ts ++ [t], A2, q2, _, by rw [List.length_append]; simp; omega, hA2l, hq2s, Z6, L6', T6, B6, ?_⟩, by rw [hln, hln0.out]; omega⟩
        show repGo _ _ _ _ _ _ _ = _
        rw [List.length_append]
        exact HGO.out
    · have g2 : decide ((ts.length : Int) < (C : Int)) = false := by simp; omega
      have hgo := HG.out
      rw [show C - ts.length = 0 by omega] at hgo
      unfold repGo at hgo
      subst hgo
      have LL := load_log HL.out
      obtain ⟨y, ST, hy, hg⟩ := store_log (v := .slice ra ts.length c) (a := A') (q := q) (e := 0) HZ.out rfl rfl
      have LY := load_log hy
      have hty : Hid (TxnsR 39 95 y w.heap.size (.slice ra ts.length c) ts) := HT.out.grownC HZ.out (by decide) (by decide) hg
      have hby : Hid (Below w.heap.size w y) := HB.out.grown hg HB.out.size (fun j e => by cases e; exact Nat.le_refl _)
      clear hg
      go_wp2_with fail
      refine bodyPost_ret (results_cell rfl rfl LY) rfl ⟨⟨_, rfl, hty.out⟩, hby.out⟩
end Go.Proofs.Ytfmgaakbfphpbaa

/- What the statements of layer 6 use: image. -/
namespace Go.Proofs.Ytfmgaakbfphpbaa
open Go.RowKit Go.Shelf
set_option linter.unusedVariables false
/-- Whatever is no block, no body, no sector, no image and no log is read and written cell by cell. -/
theorem loadVar_open6 (t : TypeId) (h : t ≠ 59 ∧ t ≠ 79 ∧ t ≠ 102 ∧ t ≠ 53 ∧ t ≠ 95 ∧ t ≠ 48 ∧ t ≠ 81) (a : Addr) : loadVar t a = (do if ← isAgg t then pure (.agg (← loadCells a (← sizeOf t))) else load a) := rfl
theorem storeVar_open6 (t : TypeId) (h : t ≠ 59 ∧ t ≠ 102 ∧ t ≠ 53 ∧ t ≠ 95 ∧ t ≠ 48 ∧ t ≠ 81) (a : Addr) (v : Value) : storeVar t a v = (do
    if v.cells.size ≠ (← sizeOf t) then stuck "storeVar: the value has not the size of the variable"
    storeCells a v.cells.toList) := rfl
attribute [-simp] Try.isAgg59 Try.zeroValue59 Try.isAgg79 Try.zeroValue79 Try.isAgg102 Try.zeroValue102 Try.isAgg95 Try.zeroValue95 Try.isAgg81 Try.zeroValue81
attribute [-go_sem] loadVar storeVar run_equalIn_agg
attribute [local go_sem] zero_blk build_blk zero_bod build_bod zero_sec zero_imgR zero_imgD loadVar_open6 storeVar_open6

/-- The first k bytes of an image's body are laid. -/
def imgTo (i v : Int) (k : Nat) : List Value := .int .i64 i :: (List.replicate k (.int .u8 v) ++ List.replicate (48 - k) (.int .u8 0))
theorem imgTo_next (i v : Int) (k : Nat) (h : k < 48) : (imgTo i v k).set (k + 1) (.int .u8 v) = imgTo i v (k + 1) := by
  unfold imgTo
  rw [List.set_cons_succ, List.set_append_right _ _ (by simp), show 48 - k = (48 - (k + 1)) + 1 by omega, List.replicate_succ (n := 48 - (k + 1))]
  simp [List.replicate_succ']
theorem imgTo_get (i v : Int) (k : Nat) (h : k < 48) : (imgTo i v k)[k + 1]? = some (.int .u8 0) := by
  unfold imgTo
  rw [List.getElem?_cons_succ, List.getElem?_append_right (by simp), List.length_replicate, Nat.sub_self, List.getElem?_replicate, if_pos (by omega)]
/-- The image of a number and a byte. -/
def imgV (i v : Int) : Img := ⟨i, List.replicate 48 v⟩
theorem imgTo_all (i v : Int) : imgTo i v 48 = (imgV i v).cells := by
  unfold imgTo imgV Img.cells u8s
  simp
set_option maxRecDepth 100000 in
theorem store_imgDC {x : World} {B : Nat} {old : List Value} {p : Img} (h : RowC x B 81 old) (ho : old.length = 49) (hp : p.body.length = 48) :
    ∃ y, (storeVar 81 ⟨B, 0, none⟩ (.agg p.cells.toArray)).run Try.prog x = .ok () y ∧ RowC y B 81 p.cells ∧ x.grownBy y (some B) := by
  have hl := Img.cells_length hp
  refine ⟨_, run_storeVar_row x B _ _ old.toArray p.cells.toArray h (by simpa [hl] using size_imgD) (by simp [hl, ho]) (all_oneCell_toArray (Img.cells_one p)), setRow_heap x B _ _ _ _ h, ?_⟩
  exact ⟨rfl, rfl, rfl, by rw [setRow_size]; exact Nat.le_refl _, fun k _ hk => setRow_other x B k _ (fun e => hk (by rw [e]))⟩

set_option maxRecDepth 100000 in
set_option maxHeartbeats 2000000 in
/-- **image**. -/
theorem lawImage (ix v : Int) (w : World) : Calls Try.prog 27 #[.int .i64 ix, .int .u8 v] w fun e w' => e = .returned (.agg (imgV ix v).cells.toArray) ∧ Below w.heap.size w w' := by
  obtain ⟨W, hW⟩ : ∃ W, w.alloc (.cells zim.toArray 81) = W := ⟨_, rfl⟩
  have hsz : W.heap.size = w.heap.size + 1 := by rw [← hW]; simp
  have HB : Hid (Below w.heap.size w W) := by rw [← hW]; exact below_new w _
  have HSZ := Lib.hid hsz
  have HR : Hid (RowC W w.heap.size 81 zim) := by rw [← hW]; exact RowC.new w _ _
  obtain ⟨W1, hW1⟩ : ∃ W1, W.alloc (.cells (imgTo ix v 0).toArray 81) = W1 := ⟨_, rfl⟩
  have e1 : (zim.set 0 (.int .i64 ix)).toArray = (imgTo ix v 0).toArray := rfl
  have ST : (storeVar 81 ⟨W.heap.size, 0, none⟩ (.agg (zim.set 0 (.int .i64 ix)).toArray)).run Try.prog (W.alloc (.cells zim.toArray 81)) = .ok () W1 := by
    rw [e1, ← hW1]
    exact store_new_imgD (by simpa using zim_size) (by simp [imgTo]) (fun u hu => by
      simp only [imgTo, List.mem_cons, List.mem_append, List.mem_replicate] at hu
      rcases hu with rfl | ⟨_, rfl⟩ | ⟨_, rfl⟩ <;> rfl)
  have B1 : Hid (Below w.heap.size w W1) := by rw [← hW1]; exact HB.out.trans ((below_new W _).mono HB.out.size)
  have R1 : Hid (RowC W1 W.heap.size 81 (imgTo ix v 0)) := by rw [← hW1]; exact RowC.new W _ _
  have Z1 : Hid (RowC W1 w.heap.size 81 zim) := by rw [← hW1]; exact HR.out.below (below_new W _)
  obtain ⟨B, hB⟩ : ∃ B, W.heap.size = B := ⟨_, rfl⟩
  rw [hB] at ST R1
  have hne : w.heap.size ≠ B := by omega
  have hle : w.heap.size ≤ B := by omega
  clear hsz e1
  go_enter Try.func27, Try.ntmps27
  go_wp2_with fail
  clear hW hW1 ST hB
  go_loopw [6] (fun i wr => ∃ k : Nat, k ≤ 48 ∧ i = .int .i64 k ∧ Hid (RowC wr B 81 (imgTo ix v k)) ∧ Hid (RowC wr w.heap.size 81 zim) ∧ Hid (Below w.heap.size w wr)) (fun i _ => 48 - (intOf i).toNat)
  case atStart => exact ⟨0, Nat.zero_le _, rfl, R1, Z1, B1⟩
  case round =>
    obtain ⟨k, hk, rfl, HR, HZ, HB2⟩ := hrel
    by_cases hlt : k < 48
    · have c1 : wr.cell? ⟨B, 1 + k, none⟩ = some (.int .u8 0) := HR.out.cell (1 + k) _ (by rw [Nat.add_comm]; exact imgTo_get ix v k hlt)
      have f1 : wr.frozen? ⟨B, 1 + k, none⟩ = false := HR.out.frozen (1 + k)
      have g1 : (k : Int) < 48 := by omega
      obtain ⟨x, hx⟩ : ∃ x, wr.setCell ⟨B, 1 + k, none⟩ (.int .u8 v) = x := ⟨_, rfl⟩
      have r1 : Hid (RowC x B 81 (imgTo ix v (k + 1))) := by
        show RowC _ _ _ _
        rw [← hx, ← imgTo_next ix v k hlt, Nat.add_comm 1 k]
        exact HR.out.set (k + 1) _
      have G : wr.grownBy x (some B) := by rw [← hx]; exact grownBy_setCellJ wr B (1 + k) _
      have r2 : Hid (RowC x w.heap.size 81 zim) := HZ.out.grown G (by simpa using fun e => hne e.symm)
      have b2 : Hid (Below w.heap.size w x) := HB2.out.grown G HB2.out.size (fun j e => by cases e; exact hle)
      have HLT := Lib.hid hlt
      clear G hlt hk HR HZ HB2
      go_wp2_with fail
      exact ⟨⟨k + 1, HLT.out, by simp, r1, r2, b2⟩, by have := HLT.out; simp [intOf]; omega⟩
    · obtain rfl : k = 48 := by omega
      have hr := HR.out
      rw [imgTo_all] at hr
      have hL := load_imgD hr.range (Img.cells_length (by simp [imgV]))
      obtain ⟨y, ST, hy, hg⟩ := store_imgDC (p := imgV ix v) HZ.out (by simpa using zim_size) (by simp [imgV])
      have LY := load_imgD hy.range (Img.cells_length (by simp [imgV]))
      have b2 : Hid (Below w.heap.size w y) := HB2.out.grown hg HB2.out.size (fun j e => by cases e; exact Nat.le_refl _)
      have g1 : ¬ ((48 : Int) < 48) := by omega
      clear hr hy hg hk hlt
      go_wp2_with fail
      exact bodyPost_ret (results_cell rfl rfl LY) rfl ⟨rfl, b2.out⟩
end Go.Proofs.Ytfmgaakbfphpbaa

/- right: pages that may be. -/
namespace Go.Proofs.Ytfmgaakbfphpbaa
open Go.RowKit Go.Shelf
set_option linter.unusedVariables false
attribute [-go_sem] loadVar storeVar run_equalIn_agg
attribute [local go_sem] loadVar_open6 storeVar_open6

def RightP (ps : List (Int × Int)) (most : Int) : Prop := (∀ p ∈ ps, 0 ≤ p.1 ∧ p.1 ≤ 65535) ∧ 1 ≤ ps.length ∧ (ps.length : Int) ≤ most
instance (ps : List (Int × Int)) (most : Int) : Decidable (RightP ps most) := by unfold RightP; infer_instance

set_option maxRecDepth 100000 in
set_option maxHeartbeats 2000000 in
/-- **right**. -/
theorem lawRight {ps : List (Int × Int)} {v : Value} {w : World} (h : Prs w v ps) (most : Int) : Calls Try.prog 25 #[v, .int .i64 most] w fun e w' => e = .returned (.bool (decide (RightP ps most))) ∧ w' = w := by
  obtain ⟨a, cap, rfl, h1, h2, h3, h4⟩ := h
  obtain ⟨n, hn⟩ : ∃ n, ps.length = n := ⟨_, rfl⟩
  rw [hn] at h1 ⊢
  have HN := Lib.hid hn
  have hnb : n ≤ 9223372036854775807 := by have h : maxLen ≤ 9223372036854775807 := by decide
                                           omega
  have HP := Lib.hid h4
  obtain ⟨R, hR⟩ : ∃ R, decide (RightP ps most) = R := ⟨_, rfl⟩
  rw [hR]
  have HR := Lib.hid hR
  clear h1 h2 h3 h4 hn hR
  go_enter Try.func25, Try.ntmps25
  go_wp2_with fail
  go_loopw [5] (fun i wr => ∃ k : Nat, k ≤ n ∧ i = .int .i64 (k : Int) ∧ wr = w ∧ Hid (∀ (j : Nat) (p : Int × Int), j < k → ps[j]? = some p → 0 ≤ p.1 ∧ p.1 ≤ 65535)) (fun i _ => n - (intOf i).toNat)
  case atStart => exact ⟨0, Nat.zero_le _, rfl, rfl, fun j x h => absurd h (Nat.not_lt_zero _)⟩
  case round =>
    obtain ⟨k, hk, rfl, hwr, HK⟩ := hrel
    have hwr := hwr.symm
    subst hwr
    by_cases hlt : k < n
    · have g3 : decide ((k : Int) < (n : Int)) = true := by simpa using hlt
      obtain ⟨p, hp⟩ : ∃ p, ps[k]? = some p := ⟨_, List.getElem?_eq_getElem (by rw [HN.out]; exact hlt)⟩
      rcases HP.out with h0 | ⟨b, off, rfl, hbl, hc⟩
      · rw [h0] at hp; simp at hp
      have c0 := (hc k p hp).1
      obtain ⟨ix, hix⟩ : ∃ n, p.1 = n := ⟨_, rfl⟩
      rw [hix] at c0
      have HNO : Hid (¬ (0 ≤ ix ∧ ix ≤ 65535) → R = false) := fun hh => by
        rw [← HR.out]
        simp only [decide_eq_false_iff_not]
        intro hr
        exact hh (hix ▸ hr.1 p (List.mem_of_getElem? hp))
      by_cases hb1 : ix < 0
      · have g4 : decide (ix < 0) = true := by simpa using hb1
        have hr := HNO.out (by omega)
        subst hr
        clear hp hix hc
        go_wp2_with fail
        go_ret
        exact ⟨rfl, rfl⟩
      · have g4 : decide (ix < 0) = false := by simpa using hb1
        by_cases hb2 : 65535 < ix
        · have g5 : decide (65535 < ix) = true := by simpa using hb2
          have g6 : decide (ix > 65535) = true := g5
          have hr := HNO.out (by omega)
          subst hr
          clear hp hix hc
          go_wp2_with fail
          go_ret
          exact ⟨rfl, rfl⟩
        · have g5 : decide (65535 < ix) = false := by simpa using hb2
          have g6 : decide (ix > 65535) = false := g5
          have HK2 : Hid (∀ (j : Nat) (p : Int × Int), j < k + 1 → ps[j]? = some p → 0 ≤ p.1 ∧ p.1 ≤ 65535) := fun j z hj hz => by
            rcases Nat.lt_or_ge j k with h | h
            · exact HK.out j z h hz
            · obtain rfl : j = k := by omega
              rw [hp] at hz
              cases hz
              exact ⟨by omega, by omega⟩
          clear hp hix hc
          go_wp2_with fail
          go_roundw
          case rel => exact ⟨k + 1, hlt, by go_num, trivial, HK2⟩
          case measure => simp [intOf]; omega
    · have g3 : decide ((k : Int) < (n : Int)) = false := by simpa using hlt
      have g3' : decide (k < n) = false := by simpa using hlt
      have hall : ∀ p ∈ ps, 0 ≤ p.1 ∧ p.1 ≤ 65535 := fun p hp => by
        obtain ⟨j, hj⟩ := List.mem_iff_getElem?.1 hp
        exact HK.out j p (by have := (List.getElem?_eq_some_iff.1 hj).1; rw [HN.out] at this; omega) hj
      have hiff : RightP ps most ↔ (1 ≤ (n : Int) ∧ (n : Int) ≤ most) := by
        have hn := HN.out
        constructor
        · rintro ⟨_, x1, x2⟩
          exact ⟨by omega, by omega⟩
        · rintro ⟨x1, x2⟩
          exact ⟨hall, by omega, by omega⟩
      have hRR : R = (decide (1 ≤ (n : Int)) && decide ((n : Int) ≤ most)) := by
        rw [← HR.out, decide_eq_decide.2 hiff, Bool.decide_and]
      clear hiff
      by_cases a1 : 1 ≤ (n : Int)
      · have d1 : decide ((n : Int) ≥ 1) = true := by simpa using a1
        have d1' : decide (1 ≤ (n : Int)) = true := by simpa using a1
        rw [d1', Bool.true_and] at hRR
        clear hall
        go_wp2_with fail
        go_ret
        exact ⟨by subst hRR; first | rfl | simp, rfl⟩
      · have d1 : decide ((n : Int) ≥ 1) = false := by simpa using a1
        have d1' : decide (1 ≤ (n : Int)) = false := by simpa using a1
        rw [d1', Bool.false_and] at hRR
        clear hall
        go_wp2_with fail
        go_ret
        exact ⟨by subst hRR; first | rfl | simp, rfl⟩
end Go.Proofs.Ytfmgaakbfphpbaa

/- images: pairs made images, the program's and the document's. -/
namespace Go.Proofs.Ytfmgaakbfphpbaa
open Go.RowKit Go.Shelf
set_option linter.unusedVariables false
attribute [-simp] Try.isAgg59 Try.zeroValue59 Try.isAgg79 Try.zeroValue79 Try.isAgg102 Try.zeroValue102 Try.isAgg95 Try.zeroValue95 Try.isAgg81 Try.zeroValue81
attribute [-go_sem] loadVar storeVar run_equalIn_agg
attribute [local go_sem] zero_blk build_blk zero_bod build_bod zero_sec zero_imgR zero_imgD loadVar_open6 storeVar_open6

/-- A byte of a number. -/
def low (n : Int) : Int := n % 256
def imgsOf (ps : List (Int × Int)) : List Img := ps.map fun p => imgV p.1 (low p.2)
theorem imgsOf_length (ps : List (Int × Int)) : (imgsOf ps).length = ps.length := by simp [imgsOf]
theorem low_byte (n : Int) : 0 ≤ low n ∧ low n < 256 := by unfold low; omega
theorem imgsOf_ok (ps : List (Int × Int)) : ∀ x ∈ imgsOf ps, x.Ok := by
  intro x hx
  obtain ⟨p, _, rfl⟩ := List.mem_map.1 hx
  refine ⟨by simp [imgV], fun j => ?_⟩
  have := low_byte p.2
  show 0 ≤ ((List.replicate 48 (low p.2))[j]?).getD 0 ∧ ((List.replicate 48 (low p.2))[j]?).getD 0 < 256
  rw [List.getElem?_replicate]
  split <;> simp <;> omega

/-- Worlds in which block B is an image. -/
def HasImg (B : Nat) (c : List Value) : Type := {x : World // RowC x B 81 c}
theorem wpQuiet_struct_run {P : Program} {C : World → Prop} {ops : Array Oper} {rest : List Oper} {o : Oper} {a : Act} {Q : Act → Prop} (t : TypeId) (parts : Array (Nat × Operand))
    (ho : o.op = .build t parts) (hw : Region.wanted o (yielded ops a.tmps) = true) (vs : List (Nat × Value)) (v' : Value) (hs : (parts.toList.map fun (i, x) => (i, a.eval x)) = vs)
    (hrun : ∀ x, C x → (Instr.build t vs.toArray).run P x = .ok v' x) (h : wpQuiet P ops C Q rest (a.put o.dst v')) : wpQuiet P ops C Q (o :: rest) a := by
  unfold wpQuiet
  rw [if_pos hw]
  refine ⟨v', fun x hx => ?_, h⟩
  have hs' : (parts.map fun (i, x) => (i, a.eval x)) = vs.toArray := by
    apply Array.toList_inj.1
    rw [Array.toList_map, hs]
  unfold Oper.quietAt
  simp only [execOp, ho, Sem.run_bind, hs', hrun x hx, Result.andThen_ok, Sem.run_pure]
  exact ⟨rfl, rfl⟩
theorem range_grown {x y : World} {B : Nat} {c : List Value} {row : Option Nat} (h : x.rangeAt B 0 c) (hlt : B < x.heap.size) (hg : x.grownBy y row) (hne : row ≠ some B) : y.rangeAt B 0 c := rangeAt_same h (hg.block B hlt (fun e => hne e.symm))
set_option maxRecDepth 100000 in
theorem store_freshD {w : World} {X : Img} (hp : X.body.length = 48) : ∃ y, (storeVar 81 ⟨w.heap.size, 0, none⟩ (.agg X.cells.toArray)).run Try.prog (w.alloc (.cells zim.toArray 81)) = .ok () y ∧ RowC y w.heap.size 81 X.cells ∧ Below w.heap.size w y :=
  ⟨_, store_new_imgD (by simpa using zim_size) (Img.cells_length hp) (Img.cells_one X), RowC.new w _ _, below_new w _⟩
set_option maxRecDepth 100000 in
theorem app_stepD {N : Nat} {z : World} {v : Value} {k : Nat} {acc : List Img} {X : Img} {B : Nat} (h : z.ownsRow N 81 49 v k (imgR acc).flatten) (hk : acc.length = k) (hX : X.cells.length = 49) (hB : z.rangeAt B 0 X.cells) (hl : k ≤ 1000000) (hN : N ≤ z.heap.size) :
    ∃ v' z', (Builtin.append_ #[38, 38] 38 #[v, .slice (some ⟨B, 0, none⟩) 1 1]).run Try.prog z = .ok v' z' ∧ z'.ownsRow N 81 49 v' (k + 1) (imgR (acc ++ [X])).flatten ∧ z.grownBy z' v.ownBlock := by
  obtain ⟨v', z', hr, ho, hg, -⟩ := append_imgD N z v (imgR acc) X.cells B (by rw [imgR_length, hk]; exact h) hX (Img.cells_one X) hB (by rw [imgR_length, hk]; exact hl) hN
  have e : imgR (acc ++ [X]) = imgR acc ++ [X.cells] := by unfold imgR; rw [List.map_append]; rfl
  rw [List.length_append, imgR_length, hk] at ho
  exact ⟨v', z', hr, by rw [e]; exact ho, hg⟩
set_option maxRecDepth 100000 in
theorem app_stepR {N : Nat} {z : World} {v : Value} {k : Nat} {acc : List Img} {X : Img} {B : Nat} (h : z.ownsRow N 95 49 v k (imgR acc).flatten) (hk : acc.length = k) (hX : X.cells.length = 49) (hB : z.rangeAt B 0 X.cells) (hl : k ≤ 1000000) (hN : N ≤ z.heap.size) :
    ∃ v' z', (Builtin.append_ #[39, 39] 39 #[v, .slice (some ⟨B, 0, none⟩) 1 1]).run Try.prog z = .ok v' z' ∧ z'.ownsRow N 95 49 v' (k + 1) (imgR (acc ++ [X])).flatten ∧ z.grownBy z' v.ownBlock := by
  obtain ⟨v', z', hr, ho, hg, -⟩ := append_imgR N z v (imgR acc) X.cells B (by rw [imgR_length, hk]; exact h) hX (Img.cells_one X) hB (by rw [imgR_length, hk]; exact hl) hN
  have e : imgR (acc ++ [X]) = imgR acc ++ [X.cells] := by unfold imgR; rw [List.map_append]; rfl
  rw [List.length_append, imgR_length, hk] at ho
  exact ⟨v', z', hr, by rw [e]; exact ho, hg⟩

set_option maxRecDepth 100000 in
set_option maxHeartbeats 4000000 in
/-- **images**. -/
theorem lawImages {ps : List (Int × Int)} {v : Value} {w : World} (h : Prs w v ps) (hlen : ps.length ≤ 1000) : Calls Try.prog 12 #[v] w fun e w' =>
    (∃ a b, e = .returned (.tuple #[a, b]) ∧ w'.ownsRow w.heap.size 81 49 a ps.length (imgR (imgsOf ps)).flatten ∧ w'.ownsRow w.heap.size 95 49 b ps.length (imgR (imgsOf ps)).flatten) ∧ Below w.heap.size w w' := by
  have hmx : Try.prog.follows .mixedOrders = true := by kernel_rfl
  obtain ⟨a, cap, rfl, h1, h2, h3, h4⟩ := h
  obtain ⟨n, hn⟩ : ∃ n, ps.length = n := ⟨_, rfl⟩
  rw [hn] at h1 hlen ⊢
  have HN := Lib.hid hn
  have HP := Lib.hid h4
  clear h1 h2 h3 h4 hn
  go_enter Try.func12, Try.ntmps12
  go_wp2_with fail
  go_loopw [4, 5, 6] (fun a b i wr => ∃ k : Nat, k ≤ n ∧ i = .int .i64 (k : Int) ∧ Hid (wr.ownsRow w.heap.size 81 49 a k (imgR (imgsOf (ps.take k))).flatten) ∧ Hid (wr.ownsRow w.heap.size 95 49 b k (imgR (imgsOf (ps.take k))).flatten) ∧ Hid (Below w.heap.size w wr)) (fun _ _ i _ => n - (intOf i).toNat)
  case atStart => exact ⟨0, Nat.zero_le _, rfl, World.ownsRow_nil _ _ _ _, World.ownsRow_nil _ _ _ _, Below.refl _ _⟩
  case round =>
    obtain ⟨k, hk, rfl, HA, HB, HW⟩ := hrel
    by_cases hlt : k < n
    · have g3 : decide ((k : Int) < (n : Int)) = true := by simpa using hlt
      obtain ⟨p, hp⟩ : ∃ p, ps[k]? = some p := ⟨_, List.getElem?_eq_getElem (by rw [HN.out]; exact hlt)⟩
      rcases HP.out with h0 | ⟨b, off, rfl, hbl, hc⟩
      · rw [h0] at hp; simp at hp
      obtain ⟨ix, hix⟩ : ∃ n, p.1 = n := ⟨_, rfl⟩
      obtain ⟨iv, hiv⟩ : ∃ n, p.2 = n := ⟨_, rfl⟩
      have C0 : ∀ z : Ext wr, z.1.cell? ⟨b, off + k * 2, none⟩ = some (.int .i64 ix) := fun z => by
        rw [← hix]
        exact ((HW.out.trans (z.2.mono HW.out.size)).cell (p := ⟨b, off + k * 2, none⟩) hbl).trans (hc k p hp).1
      have C1 : ∀ z : Ext wr, z.1.cell? ⟨b, off + k * 2 + 1, none⟩ = some (.int .i64 iv) := fun z => by
        rw [← hiv]
        exact ((HW.out.trans (z.2.mono HW.out.size)).cell (p := ⟨b, off + k * 2 + 1, none⟩) hbl).trans (hc k p hp).2
      have HX : Hid (imgsOf (ps.take (k + 1)) = imgsOf (ps.take k) ++ [imgV ix (low iv)]) := by
        show _ = _
        rw [List.take_add_one, hp]
        unfold imgsOf
        rw [List.map_append, ← hix, ← hiv]
        rfl
      clear hc hp hix hiv
      go_wp2_with fail
      refine region_plan (fun x => ∃ y : Ext wr, x = y.1) 13 (.takes [0, 1, 2, 3, 4, 5, 6, 7, 8, 9, 10] (.two 11 12 (.one 12 .leaf) (.one 11 .leaf))) hmx (by kernel_rfl) (by intro c x v a w h; cases x <;> exact h) ⟨⟨wr.drew, (Below.refl _ wr).drew⟩, rfl⟩ ?_
      repeat (rw [wpPlan_takes_cons]; simp only [nth_zero, nth_succ]; go_big_quiet_step (fail); refine wpQuiet_nil ?_)
      -- the orders
      rw [wpPlan_takes_nil]
      obtain ⟨z, hz⟩ : ∃ z, wr.drew = z := ⟨_, rfl⟩
      have e0 : Below wr.heap.size wr z := by rw [← hz]; exact (Below.refl _ wr).drew
      have HZ : Hid (Below wr.heap.size wr z) := e0
      have HXL : Hid ((imgV ix (low iv)).cells.length = 49) := Img.cells_length (by simp [imgV])
      obtain ⟨X, hX⟩ : ∃ X, imgV ix (low iv) = X := ⟨_, rfl⟩
      have HXI : Hid (X.index = ix) := by rw [← hX]; rfl
      have HXB : Hid (X.body.length = 48) := by rw [← hX]; exact List.length_replicate
      have HIM : Hid (∀ x : World, Calls Try.prog 27 #[.int .i64 ix, .int .u8 (iv % 256)] x fun e w' => e = .returned (.agg X.cells.toArray) ∧ Below x.heap.size x w') := fun x => by
        rw [← hX]
        exact lawImage ix (low iv) x
      obtain ⟨acc, hacc⟩ : ∃ acc, imgsOf (ps.take k) = acc := ⟨_, rfl⟩
      rw [hX] at HXL HX
      rw [hacc] at HA HB HX
      have HAC : Hid (acc.length = k) := by
        show _ = _
        rw [← hacc, imgsOf_length, List.length_take, HN.out]
        omega
      rw [hz]
      clear hX hacc C0 C1
      refine ⟨?_, ?_⟩
      · simp only [nth_zero, nth_succ]
        go_wp2_with fail
        go_at_call 27
        refine (HIM.out z).mono ?_
        rintro e y1 ⟨rfl, hb1⟩
        go_wp2_with fail
        refine planPost_mk ⟨⟨y1, e0.trans (hb1.mono e0.size)⟩, rfl⟩ ?_
        rw [wpPlan_one]
        simp only [nth_zero, nth_succ]
        go_wp2_with fail
        refine planPost_mk ⟨⟨y1.alloc (.cells zim.toArray 81), (e0.trans (hb1.mono e0.size)).alloc (e0.trans (hb1.mono e0.size)).size _⟩, rfl⟩ ?_
        rw [wpPlan_leaf]
        simp only [List.drop_succ_cons, List.drop_zero]
        obtain ⟨y2, ST, r2, hb2⟩ := store_freshD (w := y1) HXB.out
        have HW2 : Hid (Below wr.heap.size wr y2) := (e0.trans (hb1.mono e0.size)).trans (hb2.mono (e0.trans (hb1.mono e0.size)).size)
        obtain ⟨bb, hbb⟩ : ∃ b, y1.heap.size = b := ⟨_, rfl⟩
        have HBB : Hid (wr.heap.size ≤ bb) := by show _ ≤ _; rw [← hbb]; exact (e0.trans (hb1.mono e0.size)).size
        rw [hbb] at ST r2
        rw [hbb]
        clear hbb
        have R2 := Lib.hid r2
        clear r2 hb2 hb1 e0 hz HZ HIM
        have HAL : Hid (∀ j, u4.ownBlock = some j → w.heap.size ≤ j ∧ j < wr.heap.size) := fun j e => HA.out.lt j e
        have HBL : Hid (∀ j, u5.ownBlock = some j → w.heap.size ≤ j ∧ j < wr.heap.size) := fun j e => HB.out.lt j e
        haveI : Nonempty (HasImg bb X.cells) := ⟨⟨y2, R2.out⟩⟩
        have LX : ∀ x : HasImg bb X.cells, (loadVar 81 ⟨bb, 0, none⟩).run Try.prog x.1 = .ok (.agg X.cells.toArray) x.1 := fun x => load_imgD x.2.range HXL.out
        have CX : ∀ x : HasImg bb X.cells, x.1.cell? ⟨bb, 0, none⟩ = some (.int .i64 ix) := fun x => by rw [← HXI.out]; exact x.2.cell 0 _ rfl
        have LB : ∀ x : HasImg bb X.cells, (loadVar 79 ⟨bb, 1, none⟩).run Try.prog x.1 = .ok (.agg (u8s X.body).toArray) x.1 := fun x => load_bod (row_part (a := [.int .i64 X.index]) (b := u8s X.body) x.2) (by rw [u8s_length]; exact HXB.out)
        have BR : Hid (∀ x : World, (Instr.build 95 #[(0, .int .i64 ix), (1, .agg (u8s X.body).toArray)]).run Try.prog x = .ok (.agg X.cells.toArray) x) := fun x => by
          have := build_imgR ix (u8s X.body) (by rw [u8s_length]; exact HXB.out) x
          rwa [← HXI.out] at this ⊢
        go_wp2_with fail
        refine region_plan (fun x => ∃ y : HasImg bb X.cells, x = y.1) 12 (.takes [0, 1, 4, 5, 6, 7, 8, 9] (.two 2 10 (.two 3 10 (.one 10 (.one 11 .leaf)) (.one 3 (.one 11 .leaf))) (.one 2 (.one 3 (.one 11 .leaf))))) hmx (by kernel_rfl) (by intro c x v a w h; cases x <;> exact h) ⟨⟨y2.drew, R2.out⟩, rfl⟩ ?_
        iterate 7 (rw [wpPlan_takes_cons]; simp only [nth_zero, nth_succ]; go_big_quiet_step (fail); refine wpQuiet_nil ?_)
        rw [wpPlan_takes_cons]
        simp only [nth_zero, nth_succ]
        refine wpQuiet_struct_run _ _ rfl rfl [(0, .int .i64 ix), (1, .agg (u8s X.body).toArray)] (.agg X.cells.toArray) rfl (fun x _ => BR.out x) ?_
        refine wpQuiet_nil ?_
        rw [wpPlan_takes_nil]
        obtain ⟨z0, hz0⟩ : ∃ z, y2.drew = z := ⟨_, rfl⟩
        have e1 : Below y2.heap.size y2 z0 := by rw [← hz0]; exact (Below.refl _ y2).drew
        have f0 := HW2.out.trans (e1.mono HW2.out.size)
        rw [hz0]
        have W0 : Below w.heap.size w z0 := HW.out.trans (f0.mono HW.out.size)
        have A0 := own_belowT HA.out f0
        have B0 := own_belowT HB.out f0
        have K0 : RowC z0 bb 81 X.cells := R2.out.below e1
        have m0 : wr.heap.size ≤ z0.heap.size := f0.size
        clear LX CX LB hz0 ST
        refine ⟨?_, ?_⟩
        · simp only [nth_zero, nth_succ]
          obtain ⟨z1, hz1⟩ : ∃ x, z0.alloc (.cells X.cells.toArray 81) = x := ⟨_, rfl⟩
          have dz1 : Below z0.heap.size z0 z1 := by rw [← hz1]; exact below_new z0 _
          have cz1 : z1.rangeAt z0.heap.size 0 X.cells := row_range (t := 81) (by rw [← hz1]; exact heap_alloc_new z0 _)
          have lz1 : z0.heap.size < z1.heap.size := by rw [← hz1]; simp
          have Wz1 := W0.trans (dz1.mono W0.size)
          have Az1 := own_belowT A0 dz1
          have Bz1 := own_belowT B0 dz1
          have Kz1 := K0.below dz1
          have mz1 := Nat.le_trans m0 dz1.size
          refine wpList_build_run _ _ _ rfl rfl [(0, .agg X.cells.toArray)] _ rfl (show _ = Result.ok _ z1 by rw [← hz1]; exact slice_imgD z0 _ HXL.out) ?_
          refine wpList_nil ?_
          refine planPost_mk ⟨⟨z1, Kz1⟩, rfl⟩ ?_
          refine ⟨?_, ?_⟩
          · skip
            simp only [nth_zero, nth_succ]
            obtain ⟨vz2, z2, rz2, oz2, gz2⟩ := app_stepD Az1 HAC.out HXL.out cz1 (by omega) Wz1.size
            have Bz2 := Bz1.kept gz2 (rows_ne Bz1 Az1 (by decide))
            have Wz2 := Wz1.grown gz2 Wz1.size (fun j e => (HAL.out j e).1)
            have Kz2 := Kz1.grown gz2 (fun e => absurd ((HAL.out _ e).2) (by have := HBB.out; omega))
            have mz2 := Nat.le_trans mz1 gz2.size
            refine wpList_append_run (.tmp 26) (.tmp 28) 38 rfl rfl _ _ _ rfl rfl rz2 ?_
            refine wpList_nil ?_
            refine planPost_mk ⟨⟨z2, Kz2⟩, rfl⟩ ?_
            rw [wpPlan_one]
            simp only [nth_zero, nth_succ]
            obtain ⟨z3, hz3⟩ : ∃ x, z2.alloc (.cells X.cells.toArray 95) = x := ⟨_, rfl⟩
            have dz3 : Below z2.heap.size z2 z3 := by rw [← hz3]; exact below_new z2 _
            have cz3 : z3.rangeAt z2.heap.size 0 X.cells := row_range (t := 95) (by rw [← hz3]; exact heap_alloc_new z2 _)
            have lz3 : z2.heap.size < z3.heap.size := by rw [← hz3]; simp
            have Wz3 := Wz2.trans (dz3.mono Wz2.size)
            have Az3 := own_belowT oz2 dz3
            have Bz3 := own_belowT Bz2 dz3
            have Kz3 := Kz2.below dz3
            have mz3 := Nat.le_trans mz2 dz3.size
            refine wpList_build_run _ _ _ rfl rfl [(0, .agg X.cells.toArray)] _ rfl (show _ = Result.ok _ z3 by rw [← hz3]; exact slice_imgR z2 _ HXL.out) ?_
            refine wpList_nil ?_
            refine planPost_mk ⟨⟨z3, Kz3⟩, rfl⟩ ?_
            rw [wpPlan_one]
            simp only [nth_zero, nth_succ]
            obtain ⟨vz4, z4, rz4, oz4, gz4⟩ := app_stepR Bz3 HAC.out HXL.out cz3 (by omega) Wz3.size
            have Az4 := Az3.kept gz4 (rows_ne Az3 Bz3 (by decide))
            have Wz4 := Wz3.grown gz4 Wz3.size (fun j e => (HBL.out j e).1)
            have Kz4 := Kz3.grown gz4 (fun e => absurd ((HBL.out _ e).2) (by have := HBB.out; omega))
            have mz4 := Nat.le_trans mz3 gz4.size
            refine wpList_append_run (.tmp 30) (.tmp 36) 39 rfl rfl _ _ _ rfl rfl rz4 ?_
            refine wpList_nil ?_
            refine planPost_mk ⟨⟨z4, Kz4⟩, rfl⟩ ?_
            rw [wpPlan_leaf]
            simp only [List.drop_succ_cons, List.drop_zero]
            have HF : Hid (_ ∧ _ ∧ _) := ⟨Az4, oz4, Wz4⟩
            try clear e1
            go_wp2_with fail
            go_roundw
            case rel => exact ⟨k + 1, hlt, by go_num, by rw [HX.out]; exact HF.out.1, by rw [HX.out]; exact HF.out.2.1, HF.out.2.2⟩
            case measure => simp [intOf]; omega
          · skip
            simp only [nth_zero, nth_succ]
            obtain ⟨z2, hz2⟩ : ∃ x, z1.alloc (.cells X.cells.toArray 95) = x := ⟨_, rfl⟩
            have dz2 : Below z1.heap.size z1 z2 := by rw [← hz2]; exact below_new z1 _
            have cz2 : z2.rangeAt z1.heap.size 0 X.cells := row_range (t := 95) (by rw [← hz2]; exact heap_alloc_new z1 _)
            have lz2 : z1.heap.size < z2.heap.size := by rw [← hz2]; simp
            have Wz2 := Wz1.trans (dz2.mono Wz1.size)
            have Az2 := own_belowT Az1 dz2
            have Bz2 := own_belowT Bz1 dz2
            have Kz2 := Kz1.below dz2
            have mz2 := Nat.le_trans mz1 dz2.size
            have cpz2 := range_below dz2 lz1 cz1
            have lcpz2 := Nat.lt_of_lt_of_le lz1 dz2.size
            refine wpList_build_run _ _ _ rfl rfl [(0, .agg X.cells.toArray)] _ rfl (show _ = Result.ok _ z2 by rw [← hz2]; exact slice_imgR z1 _ HXL.out) ?_
            refine wpList_nil ?_
            refine planPost_mk ⟨⟨z2, Kz2⟩, rfl⟩ ?_
            rw [wpPlan_one]
            simp only [nth_zero, nth_succ]
            obtain ⟨vz3, z3, rz3, oz3, gz3⟩ := app_stepD Az2 HAC.out HXL.out cpz2 (by omega) Wz2.size
            have Bz3 := Bz2.kept gz3 (rows_ne Bz2 Az2 (by decide))
            have Wz3 := Wz2.grown gz3 Wz2.size (fun j e => (HAL.out j e).1)
            have Kz3 := Kz2.grown gz3 (fun e => absurd ((HAL.out _ e).2) (by have := HBB.out; omega))
            have crz3 := range_grown cz2 lz2 gz3 (fun e => absurd ((HAL.out _ e).2) (by have := mz1; omega))
            have lcrz3 := Nat.lt_of_lt_of_le lz2 gz3.size
            have mz3 := Nat.le_trans mz2 gz3.size
            refine wpList_append_run (.tmp 26) (.tmp 28) 38 rfl rfl _ _ _ rfl rfl rz3 ?_
            refine wpList_nil ?_
            refine planPost_mk ⟨⟨z3, Kz3⟩, rfl⟩ ?_
            rw [wpPlan_one]
            simp only [nth_zero, nth_succ]
            obtain ⟨vz4, z4, rz4, oz4, gz4⟩ := app_stepR Bz3 HAC.out HXL.out crz3 (by omega) Wz3.size
            have Az4 := oz3.kept gz4 (rows_ne oz3 Bz3 (by decide))
            have Wz4 := Wz3.grown gz4 Wz3.size (fun j e => (HBL.out j e).1)
            have Kz4 := Kz3.grown gz4 (fun e => absurd ((HBL.out _ e).2) (by have := HBB.out; omega))
            have mz4 := Nat.le_trans mz3 gz4.size
            refine wpList_append_run (.tmp 30) (.tmp 36) 39 rfl rfl _ _ _ rfl rfl rz4 ?_
            refine wpList_nil ?_
            refine planPost_mk ⟨⟨z4, Kz4⟩, rfl⟩ ?_
            rw [wpPlan_leaf]
            simp only [List.drop_succ_cons, List.drop_zero]
            have HF : Hid (_ ∧ _ ∧ _) := ⟨Az4, oz4, Wz4⟩
            try clear e1
            go_wp2_with fail
            go_roundw
            case rel => exact ⟨k + 1, hlt, by go_num, by rw [HX.out]; exact HF.out.1, by rw [HX.out]; exact HF.out.2.1, HF.out.2.2⟩
            case measure => simp [intOf]; omega
        · simp only [nth_zero, nth_succ]
          obtain ⟨z1, hz1⟩ : ∃ x, z0.alloc (.cells X.cells.toArray 95) = x := ⟨_, rfl⟩
          have dz1 : Below z0.heap.size z0 z1 := by rw [← hz1]; exact below_new z0 _
          have cz1 : z1.rangeAt z0.heap.size 0 X.cells := row_range (t := 95) (by rw [← hz1]; exact heap_alloc_new z0 _)
          have lz1 : z0.heap.size < z1.heap.size := by rw [← hz1]; simp
          have Wz1 := W0.trans (dz1.mono W0.size)
          have Az1 := own_belowT A0 dz1
          have Bz1 := own_belowT B0 dz1
          have Kz1 := K0.below dz1
          have mz1 := Nat.le_trans m0 dz1.size
          refine wpList_build_run _ _ _ rfl rfl [(0, .agg X.cells.toArray)] _ rfl (show _ = Result.ok _ z1 by rw [← hz1]; exact slice_imgR z0 _ HXL.out) ?_
          refine wpList_nil ?_
          refine planPost_mk ⟨⟨z1, Kz1⟩, rfl⟩ ?_
          rw [wpPlan_one]
          simp only [nth_zero, nth_succ]
          obtain ⟨z2, hz2⟩ : ∃ x, z1.alloc (.cells X.cells.toArray 81) = x := ⟨_, rfl⟩
          have dz2 : Below z1.heap.size z1 z2 := by rw [← hz2]; exact below_new z1 _
          have cz2 : z2.rangeAt z1.heap.size 0 X.cells := row_range (t := 81) (by rw [← hz2]; exact heap_alloc_new z1 _)
          have lz2 : z1.heap.size < z2.heap.size := by rw [← hz2]; simp
          have Wz2 := Wz1.trans (dz2.mono Wz1.size)
          have Az2 := own_belowT Az1 dz2
          have Bz2 := own_belowT Bz1 dz2
          have Kz2 := Kz1.below dz2
          have mz2 := Nat.le_trans mz1 dz2.size
          have crz2 := range_below dz2 lz1 cz1
          have lcrz2 := Nat.lt_of_lt_of_le lz1 dz2.size
          refine wpList_build_run _ _ _ rfl rfl [(0, .agg X.cells.toArray)] _ rfl (show _ = Result.ok _ z2 by rw [← hz2]; exact slice_imgD z1 _ HXL.out) ?_
          refine wpList_nil ?_
          refine planPost_mk ⟨⟨z2, Kz2⟩, rfl⟩ ?_
          rw [wpPlan_one]
          simp only [nth_zero, nth_succ]
          obtain ⟨vz3, z3, rz3, oz3, gz3⟩ := app_stepD Az2 HAC.out HXL.out cz2 (by omega) Wz2.size
          have Bz3 := Bz2.kept gz3 (rows_ne Bz2 Az2 (by decide))
          have Wz3 := Wz2.grown gz3 Wz2.size (fun j e => (HAL.out j e).1)
          have Kz3 := Kz2.grown gz3 (fun e => absurd ((HAL.out _ e).2) (by have := HBB.out; omega))
          have crz3 := range_grown crz2 lcrz2 gz3 (fun e => absurd ((HAL.out _ e).2) (by have := m0; omega))
          have lcrz3 := Nat.lt_of_lt_of_le lcrz2 gz3.size
          have mz3 := Nat.le_trans mz2 gz3.size
          refine wpList_append_run (.tmp 26) (.tmp 28) 38 rfl rfl _ _ _ rfl rfl rz3 ?_
          refine wpList_nil ?_
          refine planPost_mk ⟨⟨z3, Kz3⟩, rfl⟩ ?_
          rw [wpPlan_one]
          simp only [nth_zero, nth_succ]
          obtain ⟨vz4, z4, rz4, oz4, gz4⟩ := app_stepR Bz3 HAC.out HXL.out crz3 (by omega) Wz3.size
          have Az4 := oz3.kept gz4 (rows_ne oz3 Bz3 (by decide))
          have Wz4 := Wz3.grown gz4 Wz3.size (fun j e => (HBL.out j e).1)
          have Kz4 := Kz3.grown gz4 (fun e => absurd ((HBL.out _ e).2) (by have := HBB.out; omega))
          have mz4 := Nat.le_trans mz3 gz4.size
          refine wpList_append_run (.tmp 30) (.tmp 36) 39 rfl rfl _ _ _ rfl rfl rz4 ?_
          refine wpList_nil ?_
          refine planPost_mk ⟨⟨z4, Kz4⟩, rfl⟩ ?_
          rw [wpPlan_leaf]
          simp only [List.drop_succ_cons, List.drop_zero]
          have HF : Hid (_ ∧ _ ∧ _) := ⟨Az4, oz4, Wz4⟩
          try clear e1
          go_wp2_with fail
          go_roundw
          case rel => exact ⟨k + 1, hlt, by go_num, by rw [HX.out]; exact HF.out.1, by rw [HX.out]; exact HF.out.2.1, HF.out.2.2⟩
          case measure => simp [intOf]; omega
      · simp only [nth_zero, nth_succ]
        go_wp2_with fail
        obtain ⟨x1, hx1⟩ : ∃ x, z.alloc (.cells zim.toArray 81) = x := ⟨_, rfl⟩
        try rw [hx1]
        have b1 : Below z.heap.size z x1 := by rw [← hx1]; exact below_new z _
        have r1 : RowC x1 z.heap.size 81 zim := by rw [← hx1]; exact RowC.new z _ _
        obtain ⟨bb, hbb⟩ : ∃ b, z.heap.size = b := ⟨_, rfl⟩
        have HBB : Hid (wr.heap.size ≤ bb) := by show _ ≤ _; rw [← hbb]; exact e0.size
        have f1 := e0.trans (b1.mono e0.size)
        rw [hbb] at r1
        try rw [hbb]
        refine planPost_mk ⟨⟨x1, f1⟩, rfl⟩ ?_
        rw [wpPlan_one]
        simp only [nth_zero, nth_succ]
        go_wp2_with fail
        go_at_call 27
        refine (HIM.out x1).mono ?_
        rintro e y1 ⟨rfl, hb1⟩
        go_wp2_with fail
        have f2 := f1.trans (hb1.mono f1.size)
        refine planPost_mk ⟨⟨y1, f2⟩, rfl⟩ ?_
        rw [wpPlan_leaf]
        simp only [List.drop_succ_cons, List.drop_zero]
        obtain ⟨y2, ST, r2, g2⟩ := store_imgDC (p := X) (r1.below hb1) (by simpa using zim_size) HXB.out
        have HW2 : Hid (Below wr.heap.size wr y2) := f2.grown g2 f2.size (fun j e => by cases e; exact HBB.out)
        have R2 := Lib.hid r2
        clear r2 g2 hb1 f1 f2 b1 r1 e0 hz HZ HIM hx1
        have HAL : Hid (∀ j, u4.ownBlock = some j → w.heap.size ≤ j ∧ j < wr.heap.size) := fun j e => HA.out.lt j e
        have HBL : Hid (∀ j, u5.ownBlock = some j → w.heap.size ≤ j ∧ j < wr.heap.size) := fun j e => HB.out.lt j e
        haveI : Nonempty (HasImg bb X.cells) := ⟨⟨y2, R2.out⟩⟩
        have LX : ∀ x : HasImg bb X.cells, (loadVar 81 ⟨bb, 0, none⟩).run Try.prog x.1 = .ok (.agg X.cells.toArray) x.1 := fun x => load_imgD x.2.range HXL.out
        have CX : ∀ x : HasImg bb X.cells, x.1.cell? ⟨bb, 0, none⟩ = some (.int .i64 ix) := fun x => by rw [← HXI.out]; exact x.2.cell 0 _ rfl
        have LB : ∀ x : HasImg bb X.cells, (loadVar 79 ⟨bb, 1, none⟩).run Try.prog x.1 = .ok (.agg (u8s X.body).toArray) x.1 := fun x => load_bod (row_part (a := [.int .i64 X.index]) (b := u8s X.body) x.2) (by rw [u8s_length]; exact HXB.out)
        have BR : Hid (∀ x : World, (Instr.build 95 #[(0, .int .i64 ix), (1, .agg (u8s X.body).toArray)]).run Try.prog x = .ok (.agg X.cells.toArray) x) := fun x => by
          have := build_imgR ix (u8s X.body) (by rw [u8s_length]; exact HXB.out) x
          rwa [← HXI.out] at this ⊢
        go_wp2_with fail
        refine region_plan (fun x => ∃ y : HasImg bb X.cells, x = y.1) 12 (.takes [0, 1, 4, 5, 6, 7, 8, 9] (.two 2 10 (.two 3 10 (.one 10 (.one 11 .leaf)) (.one 3 (.one 11 .leaf))) (.one 2 (.one 3 (.one 11 .leaf))))) hmx (by kernel_rfl) (by intro c x v a w h; cases x <;> exact h) ⟨⟨y2.drew, R2.out⟩, rfl⟩ ?_
        iterate 7 (rw [wpPlan_takes_cons]; simp only [nth_zero, nth_succ]; go_big_quiet_step (fail); refine wpQuiet_nil ?_)
        rw [wpPlan_takes_cons]
        simp only [nth_zero, nth_succ]
        refine wpQuiet_struct_run _ _ rfl rfl [(0, .int .i64 ix), (1, .agg (u8s X.body).toArray)] (.agg X.cells.toArray) rfl (fun x _ => BR.out x) ?_
        refine wpQuiet_nil ?_
        rw [wpPlan_takes_nil]
        obtain ⟨z0, hz0⟩ : ∃ z, y2.drew = z := ⟨_, rfl⟩
        have e1 : Below y2.heap.size y2 z0 := by rw [← hz0]; exact (Below.refl _ y2).drew
        have f0 := HW2.out.trans (e1.mono HW2.out.size)
        rw [hz0]
        have W0 : Below w.heap.size w z0 := HW.out.trans (f0.mono HW.out.size)
        have A0 := own_belowT HA.out f0
        have B0 := own_belowT HB.out f0
        have K0 : RowC z0 bb 81 X.cells := R2.out.below e1
        have m0 : wr.heap.size ≤ z0.heap.size := f0.size
        clear LX CX LB hz0 ST
        refine ⟨?_, ?_⟩
        · simp only [nth_zero, nth_succ]
          obtain ⟨z1, hz1⟩ : ∃ x, z0.alloc (.cells X.cells.toArray 81) = x := ⟨_, rfl⟩
          have dz1 : Below z0.heap.size z0 z1 := by rw [← hz1]; exact below_new z0 _
          have cz1 : z1.rangeAt z0.heap.size 0 X.cells := row_range (t := 81) (by rw [← hz1]; exact heap_alloc_new z0 _)
          have lz1 : z0.heap.size < z1.heap.size := by rw [← hz1]; simp
          have Wz1 := W0.trans (dz1.mono W0.size)
          have Az1 := own_belowT A0 dz1
          have Bz1 := own_belowT B0 dz1
          have Kz1 := K0.below dz1
          have mz1 := Nat.le_trans m0 dz1.size
          refine wpList_build_run _ _ _ rfl rfl [(0, .agg X.cells.toArray)] _ rfl (show _ = Result.ok _ z1 by rw [← hz1]; exact slice_imgD z0 _ HXL.out) ?_
          refine wpList_nil ?_
          refine planPost_mk ⟨⟨z1, Kz1⟩, rfl⟩ ?_
          refine ⟨?_, ?_⟩
          · skip
            simp only [nth_zero, nth_succ]
            obtain ⟨vz2, z2, rz2, oz2, gz2⟩ := app_stepD Az1 HAC.out HXL.out cz1 (by omega) Wz1.size
            have Bz2 := Bz1.kept gz2 (rows_ne Bz1 Az1 (by decide))
            have Wz2 := Wz1.grown gz2 Wz1.size (fun j e => (HAL.out j e).1)
            have Kz2 := Kz1.grown gz2 (fun e => absurd ((HAL.out _ e).2) (by have := HBB.out; omega))
            have mz2 := Nat.le_trans mz1 gz2.size
            refine wpList_append_run (.tmp 26) (.tmp 28) 38 rfl rfl _ _ _ rfl rfl rz2 ?_
            refine wpList_nil ?_
            refine planPost_mk ⟨⟨z2, Kz2⟩, rfl⟩ ?_
            rw [wpPlan_one]
            simp only [nth_zero, nth_succ]
            obtain ⟨z3, hz3⟩ : ∃ x, z2.alloc (.cells X.cells.toArray 95) = x := ⟨_, rfl⟩
            have dz3 : Below z2.heap.size z2 z3 := by rw [← hz3]; exact below_new z2 _
            have cz3 : z3.rangeAt z2.heap.size 0 X.cells := row_range (t := 95) (by rw [← hz3]; exact heap_alloc_new z2 _)
            have lz3 : z2.heap.size < z3.heap.size := by rw [← hz3]; simp
            have Wz3 := Wz2.trans (dz3.mono Wz2.size)
            have Az3 := own_belowT oz2 dz3
            have Bz3 := own_belowT Bz2 dz3
            have Kz3 := Kz2.below dz3
            have mz3 := Nat.le_trans mz2 dz3.size
            refine wpList_build_run _ _ _ rfl rfl [(0, .agg X.cells.toArray)] _ rfl (show _ = Result.ok _ z3 by rw [← hz3]; exact slice_imgR z2 _ HXL.out) ?_
            refine wpList_nil ?_
            refine planPost_mk ⟨⟨z3, Kz3⟩, rfl⟩ ?_
            rw [wpPlan_one]
            simp only [nth_zero, nth_succ]
            obtain ⟨vz4, z4, rz4, oz4, gz4⟩ := app_stepR Bz3 HAC.out HXL.out cz3 (by omega) Wz3.size
            have Az4 := Az3.kept gz4 (rows_ne Az3 Bz3 (by decide))
            have Wz4 := Wz3.grown gz4 Wz3.size (fun j e => (HBL.out j e).1)
            have Kz4 := Kz3.grown gz4 (fun e => absurd ((HBL.out _ e).2) (by have := HBB.out; omega))
            have mz4 := Nat.le_trans mz3 gz4.size
            refine wpList_append_run (.tmp 30) (.tmp 36) 39 rfl rfl _ _ _ rfl rfl rz4 ?_
            refine wpList_nil ?_
            refine planPost_mk ⟨⟨z4, Kz4⟩, rfl⟩ ?_
            rw [wpPlan_leaf]
            simp only [List.drop_succ_cons, List.drop_zero]
            have HF : Hid (_ ∧ _ ∧ _) := ⟨Az4, oz4, Wz4⟩
            try clear e1
            go_wp2_with fail
            go_roundw
            case rel => exact ⟨k + 1, hlt, by go_num, by rw [HX.out]; exact HF.out.1, by rw [HX.out]; exact HF.out.2.1, HF.out.2.2⟩
            case measure => simp [intOf]; omega
          · skip
            simp only [nth_zero, nth_succ]
            obtain ⟨z2, hz2⟩ : ∃ x, z1.alloc (.cells X.cells.toArray 95) = x := ⟨_, rfl⟩
            have dz2 : Below z1.heap.size z1 z2 := by rw [← hz2]; exact below_new z1 _
            have cz2 : z2.rangeAt z1.heap.size 0 X.cells := row_range (t := 95) (by rw [← hz2]; exact heap_alloc_new z1 _)
            have lz2 : z1.heap.size < z2.heap.size := by rw [← hz2]; simp
            have Wz2 := Wz1.trans (dz2.mono Wz1.size)
            have Az2 := own_belowT Az1 dz2
            have Bz2 := own_belowT Bz1 dz2
            have Kz2 := Kz1.below dz2
            have mz2 := Nat.le_trans mz1 dz2.size
            have cpz2 := range_below dz2 lz1 cz1
            have lcpz2 := Nat.lt_of_lt_of_le lz1 dz2.size
            refine wpList_build_run _ _ _ rfl rfl [(0, .agg X.cells.toArray)] _ rfl (show _ = Result.ok _ z2 by rw [← hz2]; exact slice_imgR z1 _ HXL.out) ?_
            refine wpList_nil ?_
            refine planPost_mk ⟨⟨z2, Kz2⟩, rfl⟩ ?_
            rw [wpPlan_one]
            simp only [nth_zero, nth_succ]
            obtain ⟨vz3, z3, rz3, oz3, gz3⟩ := app_stepD Az2 HAC.out HXL.out cpz2 (by omega) Wz2.size
            have Bz3 := Bz2.kept gz3 (rows_ne Bz2 Az2 (by decide))
            have Wz3 := Wz2.grown gz3 Wz2.size (fun j e => (HAL.out j e).1)
            have Kz3 := Kz2.grown gz3 (fun e => absurd ((HAL.out _ e).2) (by have := HBB.out; omega))
            have crz3 := range_grown cz2 lz2 gz3 (fun e => absurd ((HAL.out _ e).2) (by have := mz1; omega))
            have lcrz3 := Nat.lt_of_lt_of_le lz2 gz3.size
            have mz3 := Nat.le_trans mz2 gz3.size
            refine wpList_append_run (.tmp 26) (.tmp 28) 38 rfl rfl _ _ _ rfl rfl rz3 ?_
            refine wpList_nil ?_
            refine planPost_mk ⟨⟨z3, Kz3⟩, rfl⟩ ?_
            rw [wpPlan_one]
            simp only [nth_zero, nth_succ]
            obtain ⟨vz4, z4, rz4, oz4, gz4⟩ := app_stepR Bz3 HAC.out HXL.out crz3 (by omega) Wz3.size
            have Az4 := oz3.kept gz4 (rows_ne oz3 Bz3 (by decide))
            have Wz4 := Wz3.grown gz4 Wz3.size (fun j e => (HBL.out j e).1)
            have Kz4 := Kz3.grown gz4 (fun e => absurd ((HBL.out _ e).2) (by have := HBB.out; omega))
            have mz4 := Nat.le_trans mz3 gz4.size
            refine wpList_append_run (.tmp 30) (.tmp 36) 39 rfl rfl _ _ _ rfl rfl rz4 ?_
            refine wpList_nil ?_
            refine planPost_mk ⟨⟨z4, Kz4⟩, rfl⟩ ?_
            rw [wpPlan_leaf]
            simp only [List.drop_succ_cons, List.drop_zero]
            have HF : Hid (_ ∧ _ ∧ _) := ⟨Az4, oz4, Wz4⟩
            try clear e1
            go_wp2_with fail
            go_roundw
            case rel => exact ⟨k + 1, hlt, by go_num, by rw [HX.out]; exact HF.out.1, by rw [HX.out]; exact HF.out.2.1, HF.out.2.2⟩
            case measure => simp [intOf]; omega
        · simp only [nth_zero, nth_succ]
          obtain ⟨z1, hz1⟩ : ∃ x, z0.alloc (.cells X.cells.toArray 95) = x := ⟨_, rfl⟩
          have dz1 : Below z0.heap.size z0 z1 := by rw [← hz1]; exact below_new z0 _
          have cz1 : z1.rangeAt z0.heap.size 0 X.cells := row_range (t := 95) (by rw [← hz1]; exact heap_alloc_new z0 _)
          have lz1 : z0.heap.size < z1.heap.size := by rw [← hz1]; simp
          have Wz1 := W0.trans (dz1.mono W0.size)
          have Az1 := own_belowT A0 dz1
          have Bz1 := own_belowT B0 dz1
          have Kz1 := K0.below dz1
          have mz1 := Nat.le_trans m0 dz1.size
          refine wpList_build_run _ _ _ rfl rfl [(0, .agg X.cells.toArray)] _ rfl (show _ = Result.ok _ z1 by rw [← hz1]; exact slice_imgR z0 _ HXL.out) ?_
          refine wpList_nil ?_
          refine planPost_mk ⟨⟨z1, Kz1⟩, rfl⟩ ?_
          rw [wpPlan_one]
          simp only [nth_zero, nth_succ]
          obtain ⟨z2, hz2⟩ : ∃ x, z1.alloc (.cells X.cells.toArray 81) = x := ⟨_, rfl⟩
          have dz2 : Below z1.heap.size z1 z2 := by rw [← hz2]; exact below_new z1 _
          have cz2 : z2.rangeAt z1.heap.size 0 X.cells := row_range (t := 81) (by rw [← hz2]; exact heap_alloc_new z1 _)
          have lz2 : z1.heap.size < z2.heap.size := by rw [← hz2]; simp
          have Wz2 := Wz1.trans (dz2.mono Wz1.size)
          have Az2 := own_belowT Az1 dz2
          have Bz2 := own_belowT Bz1 dz2
          have Kz2 := Kz1.below dz2
          have mz2 := Nat.le_trans mz1 dz2.size
          have crz2 := range_below dz2 lz1 cz1
          have lcrz2 := Nat.lt_of_lt_of_le lz1 dz2.size
          refine wpList_build_run _ _ _ rfl rfl [(0, .agg X.cells.toArray)] _ rfl (show _ = Result.ok _ z2 by rw [← hz2]; exact slice_imgD z1 _ HXL.out) ?_
          refine wpList_nil ?_
          refine planPost_mk ⟨⟨z2, Kz2⟩, rfl⟩ ?_
          rw [wpPlan_one]
          simp only [nth_zero, nth_succ]
          obtain ⟨vz3, z3, rz3, oz3, gz3⟩ := app_stepD Az2 HAC.out HXL.out cz2 (by omega) Wz2.size
          have Bz3 := Bz2.kept gz3 (rows_ne Bz2 Az2 (by decide))
          have Wz3 := Wz2.grown gz3 Wz2.size (fun j e => (HAL.out j e).1)
          have Kz3 := Kz2.grown gz3 (fun e => absurd ((HAL.out _ e).2) (by have := HBB.out; omega))
          have crz3 := range_grown crz2 lcrz2 gz3 (fun e => absurd ((HAL.out _ e).2) (by have := m0; omega))
          have lcrz3 := Nat.lt_of_lt_of_le lcrz2 gz3.size
          have mz3 := Nat.le_trans mz2 gz3.size
          refine wpList_append_run (.tmp 26) (.tmp 28) 38 rfl rfl _ _ _ rfl rfl rz3 ?_
          refine wpList_nil ?_
          refine planPost_mk ⟨⟨z3, Kz3⟩, rfl⟩ ?_
          rw [wpPlan_one]
          simp only [nth_zero, nth_succ]
          obtain ⟨vz4, z4, rz4, oz4, gz4⟩ := app_stepR Bz3 HAC.out HXL.out crz3 (by omega) Wz3.size
          have Az4 := oz3.kept gz4 (rows_ne oz3 Bz3 (by decide))
          have Wz4 := Wz3.grown gz4 Wz3.size (fun j e => (HBL.out j e).1)
          have Kz4 := Kz3.grown gz4 (fun e => absurd ((HBL.out _ e).2) (by have := HBB.out; omega))
          have mz4 := Nat.le_trans mz3 gz4.size
          refine wpList_append_run (.tmp 30) (.tmp 36) 39 rfl rfl _ _ _ rfl rfl rz4 ?_
          refine wpList_nil ?_
          refine planPost_mk ⟨⟨z4, Kz4⟩, rfl⟩ ?_
          rw [wpPlan_leaf]
          simp only [List.drop_succ_cons, List.drop_zero]
          have HF : Hid (_ ∧ _ ∧ _) := ⟨Az4, oz4, Wz4⟩
          try clear e1
          go_wp2_with fail
          go_roundw
          case rel => exact ⟨k + 1, hlt, by go_num, by rw [HX.out]; exact HF.out.1, by rw [HX.out]; exact HF.out.2.1, HF.out.2.2⟩
          case measure => simp [intOf]; omega
    · have g3 : decide ((k : Int) < (n : Int)) = false := by simpa using hlt
      have g3' : decide (k < n) = false := by simpa using hlt
      obtain rfl : k = n := by omega
      have HTK : Hid (ps.take k = ps) := by show _ = _; rw [← HN.out, List.take_length]
      rw [HTK.out] at HA HB
      go_wp2_with fail
      go_ret2
      exact ⟨⟨_, _, rfl, HA.out, HB.out⟩, HW.out⟩
end Go.Proofs.Ytfmgaakbfphpbaa

/- same: logs of the same transactions are alike. -/
namespace Go.Proofs.Ytfmgaakbfphpbaa
open Go.RowKit Go.Shelf
set_option linter.unusedVariables false
attribute [-simp] Try.isAgg59 Try.zeroValue59 Try.isAgg79 Try.zeroValue79 Try.isAgg102 Try.zeroValue102 Try.isAgg95 Try.zeroValue95 Try.isAgg81 Try.zeroValue81
attribute [-go_sem] loadVar storeVar run_equalIn_agg
attribute [local go_sem] zero_blk build_blk zero_bod build_bod zero_sec zero_imgR zero_imgD loadVar_open6 storeVar_open6

def logD (v : Value) (a : Nat) (q : Int) : List Value := [v, .int .i64 (a : Int), .int .u32 q]
/-- What transactions in memory are, cell by cell. -/
theorem TxnsR.at {eS eI : TypeId} {x : World} {N : Nat} {v : Value} {ts : List (List Img)} (h : TxnsR eS eI x N v ts) : ∃ ra c, v = .slice ra ts.length c ∧ ∀ (i : Nat) (t : List Img), ts[i]? = some t →
    ∃ g, ra = some ⟨g, 0, none⟩ ∧ g < x.heap.size ∧ ∃ rb d, x.cell? ⟨g, i, none⟩ = some (.slice rb t.length d) ∧ (0 < t.length → ∃ b, rb = some ⟨b, 0, none⟩ ∧ b < x.heap.size ∧ x.rangeAt b 0 (imgR t).flatten) := by
  obtain ⟨vs, h1, h2, h3⟩ := h
  obtain ⟨ra, c, rfl, hr⟩ := row_lenT h2
  refine ⟨ra, c, by rw [h1], fun i t ht => ?_⟩
  have hi : i < vs.length := by rw [h1]; exact (List.getElem?_eq_some_iff.1 ht).1
  obtain ⟨g, rfl, hg, hc⟩ := hr (by omega)
  have hu := List.getElem?_eq_getElem hi
  obtain ⟨rb, d, hv, hb⟩ := row_lenT (h3 i _ t hu ht)
  have := hc i _ hu
  rw [Nat.zero_add, hv] at this
  exact ⟨g, rfl, hg, rb, d, this, hb⟩

set_option maxRecDepth 100000 in
set_option maxHeartbeats 8000000 in
/-- **same**. -/
theorem lawSame {w : World} {N M : Nat} {v1 v2 : Value} {ts : List (List Img)} (h1 : TxnsR 38 81 w N v1 ts) (h2 : TxnsR 39 95 w M v2 ts) (hok : ∀ t ∈ ts, ∀ x ∈ t, x.Ok) (hlen : ts.length ≤ 1000 ∧ ∀ t ∈ ts, t.length ≤ 1000) (A : Nat) (q e : Int) :
    Calls Try.prog 17 #[.agg (logD v1 A q).toArray, .agg (logC v2 A q e).toArray] w fun e w' => e = .returned (.bool true) ∧ Below w.heap.size w w' := by
  have hmx : Try.prog.follows .mixedOrders = true := by kernel_rfl
  obtain ⟨ra, c, rfl, H1⟩ := h1.at
  obtain ⟨rb, d, rfl, H2⟩ := h2.at
  obtain ⟨n, hn⟩ : ∃ n, ts.length = n := ⟨_, rfl⟩
  rw [hn] at hlen ⊢
  have P1 := Lib.hid H1
  have P2 := Lib.hid H2
  have HOK := Lib.hid hok
  have HLN := Lib.hid hlen.2
  have HN := Lib.hid hn
  have hn1 := hlen.1
  clear h1 h2 H1 H2 hok hlen hn
  obtain ⟨W, hW⟩ : ∃ W, ((w.alloc (.cells (logD (.slice ra n c) A q).toArray 48)).alloc (.cells (logC (.slice rb n d) A q e).toArray 53)) = W := ⟨_, rfl⟩
  have hb0 := below_new w (.cells (logD (.slice ra n c) A q).toArray 48)
  have hb1 := hb0.trans ((below_new _ (.cells (logC (.slice rb n d) A q e).toArray 53)).mono hb0.size)
  rw [hW] at hb1
  have r0 : RowC W w.heap.size 48 (logD (.slice ra n c) A q) := by
    rw [← hW]
    exact (RowC.new w 48 _).below (below_new _ _)
  have r1 : RowC W (w.heap.size + 1) 53 (logC (.slice rb n d) A q e) := by
    rw [← hW]
    have := RowC.new (w.alloc (.cells (logD (.slice ra n c) A q).toArray 48)) 53 (logC (.slice rb n d) A q e)
    rwa [show (w.alloc (.cells (logD (.slice ra n c) A q).toArray 48)).heap.size = w.heap.size + 1 from Array.size_push _] at this
  have HB1 := Lib.hid hb1
  obtain ⟨B1, hB1⟩ : ∃ b, w.heap.size = b := ⟨_, rfl⟩
  obtain ⟨B2, hB2⟩ : ∃ b, w.heap.size + 1 = b := ⟨_, rfl⟩
  rw [hB1] at r0
  rw [hB2] at r1
  rw [hB1] at hB2
  have KA : Hid (∀ z : Ext W, z.1.cell? ⟨B1, 0, none⟩ = some (.slice ra n c)) := fun z => (r0.below z.2).cell 0 _ rfl
  have KB : Hid (∀ z : Ext W, z.1.cell? ⟨B2, 0, none⟩ = some (.slice rb n d)) := fun z => (r1.below z.2).cell 0 _ rfl
  have a0 : W.cell? ⟨B1, 0, none⟩ = some (.slice ra n c) := r0.cell 0 _ rfl
  have a1 : W.cell? ⟨B1, 1, none⟩ = some (.int .i64 (A : Int)) := r0.cell 1 _ rfl
  have a2 : W.cell? ⟨B1, 2, none⟩ = some (.int .u32 q) := r0.cell 2 _ rfl
  have b0 : W.cell? ⟨B2, 0, none⟩ = some (.slice rb n d) := r1.cell 0 _ rfl
  have b1 : W.cell? ⟨B2, 1, none⟩ = some (.int .i64 (A : Int)) := r1.cell 1 _ rfl
  have b2 : W.cell? ⟨B2, 2, none⟩ = some (.int .u32 q) := r1.cell 2 _ rfl
  clear hb0 hb1 r0 r1
  go_enter Try.func17, Try.ntmps17
  go_wp2_with fail
  clear hW hB1 hB2 a0 a1 a2 b0 b1 b2
  go_loopw [5, 6] (fun i _ wr => ∃ k : Nat, k ≤ n ∧ i = .int .i64 (k : Int) ∧ Hid (Below W.heap.size W wr)) (fun i _ _ => n - (intOf i).toNat)
  case atStart => exact ⟨0, Nat.zero_le _, rfl, Below.refl _ _⟩
  case round =>
    obtain ⟨k, hk, rfl, HW⟩ := hrel
    have a0 : wr.cell? ⟨B1, 0, none⟩ = some (.slice ra n c) := KA.out ⟨wr, HW.out⟩
    by_cases hlt : k < n
    · have g3 : decide ((k : Int) < (n : Int)) = true := by simpa using hlt
      obtain ⟨t, ht⟩ : ∃ t, ts[k]? = some t := ⟨_, List.getElem?_eq_getElem (by rw [HN.out]; exact hlt)⟩
      obtain ⟨ga, rfl, hga, ua, da, hca, hra⟩ := P1.out k t ht
      obtain ⟨gb, rfl, hgb, ub, db, hcb, hrb⟩ := P2.out k t ht
      have htm := List.mem_of_getElem? ht
      have hml := HLN.out t htm
      have HTO := Lib.hid (HOK.out t htm)
      obtain ⟨m, hm⟩ : ∃ m, t.length = m := ⟨_, rfl⟩
      rw [hm] at hca hcb hra hrb hml
      have HMN := Lib.hid hm
      have XW : Hid (∀ z : Ext W, Below w.heap.size w z.1) := fun z => HB1.out.trans (z.2.mono HB1.out.size)
      have A0 : ∀ z : Ext W, z.1.cell? ⟨B1, 0, none⟩ = some (.slice (some ⟨ga, 0, none⟩) n c) := KA.out
      have B0 : ∀ z : Ext W, z.1.cell? ⟨B2, 0, none⟩ = some (.slice (some ⟨gb, 0, none⟩) n d) := KB.out
      have A1 : ∀ z : Ext W, z.1.cell? ⟨ga, k, none⟩ = some (.slice ua m da) := fun z => ((XW.out z).cell (p := ⟨ga, k, none⟩) hga).trans hca
      have B1' : ∀ z : Ext W, z.1.cell? ⟨gb, k, none⟩ = some (.slice ub m db) := fun z => ((XW.out z).cell (p := ⟨gb, k, none⟩) hgb).trans hcb
      have HRA := Lib.hid hra
      have HRB := Lib.hid hrb
      have HLT := Lib.hid hlt
      have hwd : Below W.heap.size W wr.drew := HW.out.trans (((Below.refl _ wr).drew).mono HW.out.size)
      clear hca hcb ht htm hm hra hrb
      go_wp2_with fail
      refine region_plan (fun x => ∃ y : Ext W, x = y.1) 12 (.takes [0, 1, 2, 3, 4, 5, 6, 7, 8, 9, 10, 11] .leaf) hmx (by kernel_rfl) (by intro c x v a w h; cases x <;> exact h) ⟨⟨wr.drew, hwd⟩, rfl⟩ ?_
      repeat (rw [wpPlan_takes_cons]; simp only [nth_zero, nth_succ]; go_big_quiet_step (fail); refine wpQuiet_nil ?_)
      rw [wpPlan_takes_nil, wpPlan_leaf]
      simp only [List.drop_succ_cons, List.drop_zero]
      go_wp2_with fail
      obtain ⟨y, hy⟩ : ∃ y, wr.drew = y := ⟨_, rfl⟩
      rw [hy] at hwd ⊢
      have HWD := Lib.hid hwd
      clear hy hwd a0 g3
      go_loopw [6] (fun i wr => ∃ j : Nat, j ≤ m ∧ i = .int .i64 (j : Int) ∧ Hid (Below W.heap.size W wr)) (fun i _ => m - (intOf i).toNat)
      case atStart => exact ⟨0, Nat.zero_le _, rfl, HWD⟩
      case round =>
        obtain ⟨j, hj, rfl, HV⟩ := hrel
        have a0 : wr.cell? ⟨B1, 0, none⟩ = some (.slice (some ⟨ga, 0, none⟩) n c) := KA.out ⟨wr, HV.out⟩
        have a1 : wr.cell? ⟨ga, k, none⟩ = some (.slice ua m da) := A1 ⟨wr, HV.out⟩
        by_cases hjl : j < m
        · have g4 : decide ((j : Int) < (m : Int)) = true := by simpa using hjl
          obtain ⟨x, hx⟩ : ∃ x, t[j]? = some x := ⟨_, List.getElem?_eq_getElem (by rw [HMN.out]; exact hjl)⟩
          obtain ⟨ba, rfl, hba, hrga⟩ := HRA.out (by omega)
          obtain ⟨bb, rfl, hbb, hrgb⟩ := HRB.out (by omega)
          have hxl := (HTO.out x (List.mem_of_getElem? hx)).len
          have A2 : ∀ z : Ext W, z.1.cell? ⟨ba, j * 49, none⟩ = some (.int .i64 x.index) := fun z => img_cells (range_below (XW.out z) hba hrga) HTO.out hx 0 _ rfl
          have B2' : ∀ z : Ext W, z.1.cell? ⟨bb, j * 49, none⟩ = some (.int .i64 x.index) := fun z => img_cells (range_below (XW.out z) hbb hrgb) HTO.out hx 0 _ rfl
          have A3 : ∀ z : Ext W, (loadVar 79 ⟨ba, j * 49 + 1, none⟩).run Try.prog z.1 = .ok (.agg (u8s x.body).toArray) z.1 := fun z => load_bod (img_body (range_below (XW.out z) hba hrga) HTO.out hx) (by rw [u8s_length]; exact hxl)
          have B3 : ∀ z : Ext W, (loadVar 79 ⟨bb, j * 49 + 1, none⟩).run Try.prog z.1 = .ok (.agg (u8s x.body).toArray) z.1 := fun z => load_bod (img_body (range_below (XW.out z) hbb hrgb) HTO.out hx) (by rw [u8s_length]; exact hxl)
          have EQ : ∀ z : Ext W, (Op.equalIn 10000 79 (.agg (u8s x.body).toArray) (.agg (u8s x.body).toArray)).run Try.prog z.1 = .ok true z.1 := fun z => by
            rw [eq_bod hxl hxl, alike_self]
          have HJL := Lib.hid hjl
          have hwd : Below W.heap.size W wr.drew := HV.out.trans (((Below.refl _ wr).drew).mono HV.out.size)
          have HVD := Lib.hid hwd
          clear hx hrga hrgb hxl
          go_wp2_with fail
          refine region_plan (fun x => ∃ y : Ext W, x = y.1) 39 (.takes [0, 1, 2, 3, 4, 5, 6, 7, 8, 9, 10, 11, 12, 13, 14, 15, 16, 17, 18, 19, 20, 21, 22, 23, 24, 25, 26, 27, 28, 29, 30, 31, 32, 33, 34, 35, 36, 37, 38] .leaf) hmx (by kernel_rfl) (by intro c x v a w h; cases x <;> exact h) ⟨⟨wr.drew, hwd⟩, rfl⟩ ?_
          repeat (rw [wpPlan_takes_cons]; simp only [nth_zero, nth_succ]; go_big_quiet_step (fail); refine wpQuiet_nil ?_)
          rw [wpPlan_takes_nil, wpPlan_leaf]
          simp only [List.drop_succ_cons, List.drop_zero]
          clear A0 A1 A2 A3 B0 B1' B2' B3 EQ
          go_wp2_with fail
          go_roundw
          case rel => exact ⟨j + 1, hjl, by go_num, HVD⟩
          case measure => simp [intOf]; omega
        · have g4 : decide ((j : Int) < (m : Int)) = false := by simpa using hjl
          have g4' : decide (j < m) = false := by simpa using hjl
          clear A0 A1 B0 B1'
          go_wp2_with fail
          go_roundw
          case rel => exact ⟨k + 1, HLT.out, by go_num, HV⟩
          case measure => have := HLT.out; simp [intOf]; omega
    · have g3 : decide ((k : Int) < (n : Int)) = false := by simpa using hlt
      have g3' : decide (k < n) = false := by simpa using hlt
      have HF : Hid (Below w.heap.size w wr) := HB1.out.trans (HW.out.mono HB1.out.size)
      go_wp2_with fail
      go_ret
      exact ⟨rfl, HF.out⟩
end Go.Proofs.Ytfmgaakbfphpbaa

/- What the developers' ring promises. -/
namespace Go.Proofs.Ytfmgaakbfphpbaa
open Go.RowKit
set_option linter.unusedVariables false

/-- What is promised of the two. -/
structure RingOk : Prop where
  replay : ∀ {rb p0 p1 : Nat} {S : RS} {w : World} {f : Nat → Prop}, RigR rb p0 p1 S w f → S.Byt → S.down = false → ∀ {F C A : Nat}, 2 ≤ C → C ≤ 256 → F + C ≤ S.n0 → A < C → S.n0 ≤ 4096 → ∀ {seq : Int}, IsSeq seq →
    Calls Try.prog 15 #[.pointer (some ⟨rb, 0, none⟩), .int .i64 (F : Int), .int .i64 (C : Int), .int .i64 (A : Int), .int .u32 seq] w fun e w' =>
      (∃ v, e = .returned (.tuple #[.agg (logD v (repS S.rd F C A seq).2.1 (repS S.rd F C A seq).2.2).toArray, .int .i64 0]) ∧ TxnsR 38 81 w' w.heap.size v (repS S.rd F C A seq).1) ∧ Below w.heap.size w w'
  replay_no : ∀ {rb p0 p1 : Nat} {S : RS} {w : World} {f : Nat → Prop}, RigR rb p0 p1 S w f → S.n0 ≤ 4096 → ∀ {frm count at0 seq : Int}, mayR S.n0 frm count at0 = false →
    Calls Try.prog 15 #[.pointer (some ⟨rb, 0, none⟩), .int .i64 frm, .int .i64 count, .int .i64 at0, .int .u32 seq] w fun e w' => e = .returned (.tuple #[.agg (logD (.slice none 0 0) 0 0).toArray, .int .i64 1]) ∧ Below w.heap.size w w'
  replay_nil : ∀ (frm count at0 seq : Int) (w : World),
    Calls Try.prog 15 #[.pointer none, .int .i64 frm, .int .i64 count, .int .i64 at0, .int .u32 seq] w fun e w' => e = .returned (.tuple #[.agg (logD (.slice none 0 0) 0 0).toArray, .int .i64 1]) ∧ Below w.heap.size w w'
  append : ∀ {rb p0 p1 : Nat} {S : RS} {w : World} {f : Nat → Prop}, RigR rb p0 p1 S w f → S.fuse ≤ 1000000 → 0 ≤ S.done → S.done ≤ 900000 → S.Few 250 → ∀ {F C A : Nat}, 2 ≤ C → C ≤ 256 → F + C ≤ S.n0 → A < C → S.n0 ≤ 4096 → ∀ {seq : Int}, IsSeq seq →
    ∀ {t : List Img}, TxnOk C t → ∀ {g c : Nat}, w.rangeAt g 0 (imgR t).flatten → g < w.heap.size → ¬ f g →
    Calls Try.prog 13 #[.pointer (some ⟨rb, 0, none⟩), .int .i64 (F : Int), .int .i64 (C : Int), .int .i64 (A : Int), .int .u32 seq, .slice (some ⟨g, 0, none⟩) t.length c] w fun e w' =>
      e = .returned (.tuple #[.int .i64 (if (S.app F C A seq t).2 = 0 then (((A + t.length + 1) % C : Nat) : Int) else 0), .int .i64 (S.app F C A seq t).2]) ∧ ∃ f', RigR rb p0 p1 (S.app F C A seq t).1 w' f' ∧ Turn f f' w w'
  append_no : ∀ {rb p0 p1 : Nat} {S : RS} {w : World} {f : Nat → Prop}, RigR rb p0 p1 S w f → S.n0 ≤ 4096 → ∀ {frm count at0 seq : Int}, mayR S.n0 frm count at0 = false → ∀ {a : Option Addr} {n c : Nat}, n ≤ 1000000 →
    Calls Try.prog 13 #[.pointer (some ⟨rb, 0, none⟩), .int .i64 frm, .int .i64 count, .int .i64 at0, .int .u32 seq, .slice a n c] w fun e w' => e = .returned (.tuple #[.int .i64 0, .int .i64 1]) ∧ Below w.heap.size w w'
  append_nil : ∀ (frm count at0 seq : Int) (w : World) {a : Option Addr} {n c : Nat}, n ≤ 1000000 →
    Calls Try.prog 13 #[.pointer none, .int .i64 frm, .int .i64 count, .int .i64 at0, .int .u32 seq, .slice a n c] w fun e w' => e = .returned (.tuple #[.int .i64 0, .int .i64 1]) ∧ Below w.heap.size w w'
  append_long : ∀ {rb p0 p1 : Nat} {S : RS} {w : World} {f : Nat → Prop}, RigR rb p0 p1 S w f → S.n0 ≤ 4096 → ∀ {F C A : Nat}, 2 ≤ C → C ≤ 256 → F + C ≤ S.n0 → A < C → ∀ {seq : Int} {a : Option Addr} {n c : Nat}, (n < 1 ∨ C < n + 1) → n ≤ 1000000 →
    Calls Try.prog 13 #[.pointer (some ⟨rb, 0, none⟩), .int .i64 (F : Int), .int .i64 (C : Int), .int .i64 (A : Int), .int .u32 seq, .slice a n c] w fun e w' => e = .returned (.tuple #[.int .i64 0, .int .i64 2]) ∧ Below w.heap.size w w'
  append_bad : ∀ {rb p0 p1 : Nat} {S : RS} {w : World} {f : Nat → Prop}, RigR rb p0 p1 S w f → S.n0 ≤ 4096 → ∀ {F C A : Nat}, 2 ≤ C → C ≤ 256 → F + C ≤ S.n0 → A < C → ∀ {seq : Int}, IsSeq seq → ∀ {t : List Img}, 1 ≤ t.length → t.length + 1 ≤ C → (∀ x ∈ t, x.Ok) → (¬ ∀ x ∈ t, x.fits) → ∀ {g c : Nat}, w.rangeAt g 0 (imgR t).flatten → g < w.heap.size →
    Calls Try.prog 13 #[.pointer (some ⟨rb, 0, none⟩), .int .i64 (F : Int), .int .i64 (C : Int), .int .i64 (A : Int), .int .u32 seq, .slice (some ⟨g, 0, none⟩) t.length c] w fun e w' => e = .returned (.tuple #[.int .i64 0, .int .i64 1]) ∧ Below w.heap.size w w'
end Go.Proofs.Ytfmgaakbfphpbaa

/- A nil rig. -/
namespace Go.Proofs.Ytfmgaakbfphpbaa
open Go.RowKit Go.Shelf
set_option linter.unusedVariables false
attribute [-simp] Try.isAgg59 Try.zeroValue59
attribute [-go_sem] loadVar storeVar
attribute [local go_sem] zero_blk build_blk loadVar_open storeVar_open

set_option maxRecDepth 100000 in
set_option maxHeartbeats 1000000 in
theorem nil_arm (n : Int) (w : World) : Calls Try.prog 26 #[.pointer none, .int .i64 n] w fun e w' => e = .returned (.tuple #[]) ∧ w' = w := by
  go_enter Try.func26, Try.ntmps26
  go_wp2
  go_end0
  exact ⟨rfl, rfl⟩

set_option maxRecDepth 100000 in
set_option maxHeartbeats 1000000 in
theorem nil_crash (v0 v1 : Value) (w : World) : Calls Try.prog 18 #[.pointer none, v0, v1] w fun e w' => e = .returned (.tuple #[]) ∧ w' = w := by
  go_enter Try.func18, Try.ntmps18
  go_wp2
  refine bodyPost_ret (results_none rfl _ _ _) rfl ?_
  exact ⟨rfl, rfl⟩

set_option maxRecDepth 100000 in
set_option maxHeartbeats 1000000 in
theorem nil_len (dev : Int) (w : World) : Calls Try.prog 52 #[.pointer none, .int .i64 dev] w fun e w' => e = .returned (.int .i64 0) ∧ Below w.heap.size w w' := by
  have H1 := Lib.hid (disk_nil dev w)
  go_enter Try.func52, Try.ntmps52
  go_wp2_with fail
  refine H1.out.mono ?_
  rintro e x1 ⟨rfl, hb⟩
  have HB := Lib.hid hb
  clear hb
  go_wp2_with fail
  refine (len_nil x1).mono ?_
  rintro e w' ⟨rfl, rfl⟩
  go_wp2_with fail
  go_ret
  exact ⟨rfl, HB.out⟩

set_option maxRecDepth 100000 in
set_option maxHeartbeats 1000000 in
theorem nil_flush (dev : Int) (w : World) : Calls Try.prog 54 #[.pointer none, .int .i64 dev] w fun e w' => e = .returned (.int .i64 1) ∧ Below w.heap.size w w' := by
  have H1 := Lib.hid (disk_nil dev w)
  go_enter Try.func54, Try.ntmps54
  go_wp2_with fail
  refine H1.out.mono ?_
  rintro e x1 ⟨rfl, hb⟩
  have HB := Lib.hid hb
  clear hb
  go_wp2_with fail
  go_ret
  exact ⟨rfl, HB.out⟩

set_option maxRecDepth 100000 in
theorem nil_has (i : Int) (w : World) : Calls Try.prog 45 #[.pointer none, .int .i64 i] w fun e w' => e = .returned (.bool false) ∧ w' = w := by
  have := has_rig none 0 i w (len_nil w)
  rwa [show decide (0 ≤ i ∧ i < ((0 : Nat) : Int)) = false by simp] at this

set_option maxRecDepth 100000 in
set_option maxHeartbeats 1000000 in
theorem nil_write (dev i : Int) (b : List Value) (w : World) : Calls Try.prog 20 #[.pointer none, .int .i64 dev, .int .i64 i, .agg b.toArray] w fun e w' => e = .returned (.int .i64 1) ∧ Below w.heap.size w w' := by
  obtain ⟨W, hW⟩ : ∃ W, w.alloc (.cells b.toArray 59) = W := ⟨_, rfl⟩
  have HB0 : Hid (Below w.heap.size w W) := by rw [← hW]; exact (Below.refl _ w).alloc (Nat.le_refl _) _
  have H1 := Lib.hid (disk_nil dev W)
  go_enter Try.func20, Try.ntmps20
  go_wp2_with (with_reducible (rw [hW]; clear hW))
  refine H1.out.mono ?_
  rintro e x1 ⟨rfl, hb⟩
  have HB := Lib.hid hb
  clear hb
  go_wp2_with fail
  refine (nil_has i x1).mono ?_
  rintro e w' ⟨rfl, hx⟩
  obtain rfl := hx.symm
  clear hx
  go_wp2_with fail
  go_ret
  exact ⟨rfl, HB0.out.trans (HB.out.mono HB0.out.size)⟩

set_option maxRecDepth 100000 in
set_option maxHeartbeats 1000000 in
theorem nil_read (dev i : Int) (w : World) : Calls Try.prog 23 #[.pointer none, .int .i64 dev, .int .i64 i] w fun e w' => e = .returned (.tuple #[.agg (fillB 0).toArray, .int .i64 1]) ∧ Below w.heap.size w w' := by
  obtain ⟨W, hW⟩ : ∃ W, w.alloc (.cells zarr 59) = W := ⟨_, rfl⟩
  have HB0 : Hid (Below w.heap.size w W) := by rw [← hW]; exact (Below.refl _ w).alloc (Nat.le_refl _) _
  have K : Hid (W.heap[w.heap.size]? = some (.cells zarr 59 (0, 0)) ∧ w.heap.size < W.heap.size) := by rw [← hW]; exact ⟨heap_alloc_new w _, by simp⟩
  have H1 := Lib.hid (disk_nil dev W)
  go_enter Try.func23, Try.ntmps23
  go_wp2_with (with_reducible (rw [hW]; clear hW))
  refine H1.out.mono ?_
  rintro e x1 ⟨rfl, hb⟩
  have HB := Lib.hid hb
  clear hb
  go_wp2_with fail
  refine (nil_has i x1).mono ?_
  rintro e w' ⟨rfl, hx⟩
  obtain rfl := hx.symm
  clear hx
  obtain ⟨x2, st, ld, hb2⟩ := own_cell ((HB.out.block _ K.out.2).trans K.out.1) zarr_size (HB0.out.trans (HB.out.mono HB0.out.size)) (isBlk_fill 0)
  have st' : (storeVar 59 ⟨w.heap.size, 0, none⟩ (.agg zarr)).run Try.prog x1 = .ok () x2 := st
  have HB2 := Lib.hid hb2
  clear st hb2
  go_wp2_with fail
  exact bodyPost_ret (results_cell2 rfl rfl ld) rfl ⟨rfl, HB2.out⟩
end Go.Proofs.Ytfmgaakbfphpbaa

/- The developers' ring: sector, isImage, commit, fits. -/
namespace Go.Proofs.Ytfmgaakbfphpbaa
open Go.RowKit Go.Shelf
set_option linter.unusedVariables false
attribute [-simp] Try.isAgg59 Try.zeroValue59 Try.isAgg79 Try.zeroValue79 Try.isAgg107 Try.zeroValue107 Try.isAgg81 Try.zeroValue81
attribute [-go_sem] loadVar storeVar run_equalIn_agg
attribute [local go_sem] zero_blk build_blk zero_bod zero_pg build_pg build_pg0 zero_imgD loadVar_open4 storeVar_open4

set_option maxRecDepth 100000 in
set_option maxHeartbeats 1000000 in
theorem rgSector {F C P : Nat} (hC : 1 ≤ C) (hC2 : C ≤ 256) (hF : F ≤ 4096) (hP : P ≤ 1000000) (w : World) :
    Calls Try.prog 36 #[.int .i64 (F : Int), .int .i64 (C : Int), .int .i64 (P : Int)] w fun e w' => e = .returned (.int .i64 ((F + P % C : Nat) : Int)) ∧ w' = w := by
  have hz : ¬ ((C : Int) = 0) := by omega
  obtain ⟨i, hi⟩ : ∃ i, F + P % C = i := ⟨_, rfl⟩
  have hii : (F : Int) + (P : Int) % (C : Int) = (i : Int) := by rw [← hi]; simp
  have hi4 : (i : Int) < 5000 := by have := Nat.mod_lt P (show 0 < C by omega); omega
  rw [hi]
  clear hi
  go_enter Try.func36, Try.ntmps36
  go_wp2_with fail
  go_ret
  exact ⟨rfl, rfl⟩

set_option maxRecDepth 100000 in
set_option maxHeartbeats 1000000 in
theorem rgIsImage (p : Sct) (hp : p.body.length = 48) (seq : Int) (w : World) :
    Calls Try.prog 38 #[.agg p.cells.toArray, .int .u32 seq] w fun e w' => e = .returned (.bool (p.mark == 73 && p.seq == seq)) ∧ Below w.heap.size w w' := by
  obtain ⟨W, hW⟩ : ∃ W, w.alloc (.cells p.cells.toArray 107) = W := ⟨_, rfl⟩
  have r : RowC W w.heap.size 107 p.cells := by rw [← hW]; exact RowC.new w _ _
  have c0 : W.cell? ⟨w.heap.size, 0, none⟩ = some (.int .u8 p.mark) := r.cell 0 _ rfl
  have c1 : W.cell? ⟨w.heap.size, 1, none⟩ = some (.int .u32 p.seq) := r.cell 1 _ rfl
  have HB : Hid (Below w.heap.size w W) := by show Below _ _ _; rw [← hW]; exact below_new w _
  obtain ⟨mk, hmk⟩ : ∃ n, p.mark = n := ⟨_, rfl⟩
  obtain ⟨sq, hsq⟩ : ∃ n, p.seq = n := ⟨_, rfl⟩
  rw [hmk] at c0 ⊢
  rw [hsq] at c1 ⊢
  clear r hmk hsq
  go_enter Try.func38, Try.ntmps38
  go_wp2_with fail
  all_goals
    go_ret
    first | exact ⟨rfl, HB.out⟩ | (refine ⟨?_, HB.out⟩; simp_all)

set_option maxRecDepth 100000 in
set_option maxHeartbeats 1000000 in
theorem rgCommit (seq : Int) (n : Nat) (w : World) :
    Calls Try.prog 39 #[.int .u32 seq, .int .i64 (n : Int)] w fun e w' => e = .returned (.agg (comSct seq n).cells.toArray) ∧ Below w.heap.size w w' := by
  obtain ⟨y, ST, r, hb⟩ := new_pg w (comSct seq n) (by simp [comSct])
  have LD := r.pg (by simp [comSct])
  have e1 : (comSct seq n).cells.toArray = (((zcs.set 0 (.int .u8 67)).set 1 (.int .u32 seq)).set 2 (.int .i64 (n : Int))).toArray := rfl
  have HB := Lib.hid hb
  rw [e1] at ST
  clear r hb
  go_enter Try.func39, Try.ntmps39
  go_wp2_with fail
  refine bodyPost_ret (results_cell rfl rfl LD) rfl ⟨rfl, HB.out⟩

set_option maxRecDepth 100000 in
set_option maxHeartbeats 1000000 in
/-- **fits**, of whatever has so many sectors. -/
theorem rgFits {v : Value} {n : Nat} (hn : n ≤ 4096) (frm count at0 : Int) (w : World)
    (HL : Calls Try.prog 52 #[v, .int .i64 0] w fun e w' => e = .returned (.int .i64 (n : Int)) ∧ Below w.heap.size w w') :
    Calls Try.prog 30 #[v, .int .i64 frm, .int .i64 count, .int .i64 at0] w fun e w' => e = .returned (.bool (mayR n frm count at0)) ∧ Below w.heap.size w w' := by
  have H := Lib.hid HL
  clear HL
  have HM : Hid (mayR n frm count at0 = decide (0 ≤ frm ∧ 2 ≤ count ∧ count ≤ 256 ∧ frm ≤ n ∧ count ≤ n - frm ∧ 0 ≤ at0 ∧ at0 < count)) := rfl
  by_cases h1 : count < 2
  · go_enter Try.func30, Try.ntmps30
    go_wp2_with fail
    all_goals
      go_ret
      refine ⟨?_, Below.refl _ _⟩
      rw [HM.out, decide_eq_false (by omega)]; rfl
  · by_cases h2 : 256 < count
    · go_enter Try.func30, Try.ntmps30
      go_wp2_with fail
      all_goals
        go_ret
        refine ⟨?_, Below.refl _ _⟩
        rw [HM.out, decide_eq_false (by omega)]; rfl
    · have g1 : decide (count < 2) = false := by simpa using h1
      have g2 : decide (256 < count) = false := by simpa using h2
      have g3 : decide (count > 256) = false := g2
      by_cases h3 : 0 ≤ frm
      · have g4 : decide (0 ≤ frm) = true := by simpa using h3
        have g5 : decide (frm ≥ 0) = true := g4
        go_enter Try.func30, Try.ntmps30
        go_wp2_with fail
        go_at_call 52
        refine H.out.mono ?_
        rintro e x ⟨rfl, hb⟩
        have HB := Lib.hid hb
        clear hb
        go_wp2_with fail
        all_goals
          go_ret
          refine ⟨?_, HB.out⟩
          rw [HM.out]
          first
            | (rw [decide_eq_false (by omega)]; rfl)
            | (rw [decide_eq_true (by omega)]; rfl)
            | (refine congrArg (fun b => Ending.returned (Value.bool b)) ?_; simp only [decide_eq_decide]; omega)
      · have g4 : decide (0 ≤ frm) = false := by simpa using h3
        have g5 : decide (frm ≥ 0) = false := g4
        go_enter Try.func30, Try.ntmps30
        go_wp2_with fail
        all_goals
          go_ret
          refine ⟨?_, Below.refl _ _⟩
          rw [HM.out, decide_eq_false (by omega)]; rfl
end Go.Proofs.Ytfmgaakbfphpbaa

/- The developers' ring: store. -/
namespace Go.Proofs.Ytfmgaakbfphpbaa
open Go.RowKit Go.Shelf
set_option linter.unusedVariables false
attribute [-simp] Try.isAgg59 Try.zeroValue59 Try.isAgg79 Try.zeroValue79 Try.isAgg107 Try.zeroValue107 Try.isAgg81 Try.zeroValue81
attribute [-go_sem] loadVar storeVar run_equalIn_agg
attribute [local go_sem] zero_blk build_blk zero_bod zero_pg build_pg build_pg0 zero_imgD loadVar_open4 storeVar_open4

theorem flat_len {s : Nat} : ∀ {L : List (List Value)}, (∀ x ∈ L, x.length = s) → L.flatten.length = L.length * s
  | [], _ => by simp
  | y :: L, h => by
    rw [List.flatten_cons, List.length_append, flat_len (fun x hx => h x (List.mem_cons_of_mem _ hx)), h y List.mem_cons_self, List.length_cons, Nat.succ_mul]
    omega
/-- Cells of the k-th row. -/
theorem row_at {w : World} {g o s : Nat} {L : List (List Value)} (hl : ∀ x ∈ L, x.length = s) (hg : w.rangeAt g o L.flatten) {k : Nat} {x : List Value} (hx : L[k]? = some x) : w.rangeAt g (o + k * s) x := by
  obtain ⟨hk, e⟩ := List.getElem?_eq_some_iff.1 hx
  have e1 : L = L.take k ++ x :: L.drop (k + 1) := by rw [← e, ← List.drop_eq_getElem_cons hk, List.take_append_drop]
  have e2 : L.flatten = (L.take k).flatten ++ (x ++ (L.drop (k + 1)).flatten) := by
    conv => lhs; rw [e1]
    rw [List.flatten_append]
    rfl
  have hl1 := flat_len (L := L.take k) (fun x hx => hl x (List.mem_of_mem_take hx))
  rw [List.length_take, Nat.min_eq_left (Nat.le_of_lt hk)] at hl1
  intro j u hj
  have hj' : j < x.length := (List.getElem?_eq_some_iff.1 hj).1
  have := hg (k * s + j) u (by
    rw [e2, List.getElem?_append_right (by omega), hl1, show k * s + j - k * s = j by omega, List.getElem?_append_left hj']
    exact hj)
  rwa [show o + (k * s + j) = o + k * s + j by omega] at this
theorem blk_at {w : World} {g o : Nat} {L : List (List Int)} (hl : ∀ b ∈ L, b.length = 64) (hg : w.rangeAt g o (L.map u8s).flatten) {k : Nat} {b : List Int} (hx : L[k]? = some b) : w.rangeAt g (o + k * 64) (u8s b) :=
  row_at (s := 64) (fun x hx => by obtain ⟨y, hy, rfl⟩ := List.mem_map.1 hx; rw [u8s_length]; exact hl y hy) hg (by rw [List.getElem?_map, hx]; rfl)

set_option maxRecDepth 100000 in
set_option maxHeartbeats 4000000 in
/-- **store**. -/
theorem rgStore {rb p0 p1 : Nat} {S : RS} {w : World} {f : Nat → Prop} (h : RigR rb p0 p1 S w f) (hfu : S.fuse ≤ 2000000) (hd : 0 ≤ S.done ∧ S.done ≤ 950000) {m : Nat} (hf : S.Few m) (hm : m ≤ 253) {F C P : Nat} (hC1 : 1 ≤ C) (hC : C ≤ 256) (hF : F + C ≤ S.n0) (hn : S.n0 ≤ 4096) (hP : P ≤ 100000) {L : List (List Int)} (hL : ∀ b ∈ L, b.length = 64) (hl : L.length ≤ C) {g o c : Nat} (hg : w.rangeAt g o (L.map u8s).flatten) (hgl : g < w.heap.size) (hgf : ¬ f g) :
    Calls Try.prog 32 #[.pointer (some ⟨rb, 0, none⟩), .int .i64 (F : Int), .int .i64 (C : Int), .int .i64 (P : Int), .slice (some ⟨g, o, none⟩) L.length c] w fun e w' => e = .returned (.int .i64 (S.st (wsAt F C P L)).2) ∧ ∃ f', RigR rb p0 p1 (S.st (wsAt F C P L)).1 w' f' ∧ Turn f f' w w' := by
  obtain ⟨T, hT⟩ : ∃ T : Nat → RS × Bool, T = fun k => S.wrs ((wsAt F C P L).take k) := ⟨_, rfl⟩
  have hT' : ∀ k, T k = S.wrs ((wsAt F C P L).take k) := fun k => by rw [hT]
  have hin := wsAt_in (L := L) (P := P) (C := C) (by omega) hF
  have hnd := wsAt_nodup (F := F) (P := P) hl
  have hlen := wsAt_length F C P L
  have HW : Hid (∀ k, (T k).1.Fit ∧ (T k).1.Few 254 ∧ (T k).1.n0 = S.n0) := fun k => by
    have h1 : ∀ x ∈ (wsAt F C P L).take k, x.1 < S.n0 := fun x hx => hin x (List.mem_of_mem_take hx)
    obtain ⟨w1, w2, w3⟩ := RS.wrs_way ((wsAt F C P L).take k) S
    have hll : ((wsAt F C P L).take k).length ≤ 256 := by rw [List.length_take, hlen]; omega
    rw [hT' k]
    exact ⟨RS.fit (by omega) (by omega) (by omega), (RS.wrs_few hf (by omega) h1 (List.Nodup.sublist (List.Sublist.map _ (List.take_sublist k _)) hnd)).mono (by omega), (S.wrs_spec _ h1).1.n0⟩
  have HS : Hid (∀ k b, L[k]? = some b → (T k).2 = true → T (k + 1) = ((T k).1.write 0 ((F + (P + k) % C : Nat) : Int) (u8s b), decide ((T k).1.writeE 0 ((F + (P + k) % C : Nat) : Int) = 0))) := fun k b hb ht => by
    rw [hT'] at ht
    rw [hT', hT', List.take_add_one, wsAt_get?, hb]
    exact RS.wrs_last _ S _ _ ht
  have HF : Hid (∀ k, (T k).2 = false → (S.st (wsAt F C P L)) = ((T k).1, 14)) := fun k hk => by
    rw [hT'] at hk ⊢
    have e := RS.wrs_stop ((wsAt F C P L).take k) ((wsAt F C P L).drop k) S hk
    rw [List.take_append_drop] at e
    unfold RS.st
    rw [e, if_pos hk]
  have HE : Hid ((T L.length).2 = true → (S.st (wsAt F C P L)) = ((T L.length).1.flush 0, (T L.length).1.flushE 0)) := fun hk => by
    rw [hT', ← hlen, List.take_length] at hk ⊢
    unfold RS.st
    rw [if_neg (by rw [hk]; simp)]
  have H0 : Hid (RigR rb p0 p1 (T 0).1 w f ∧ (T 0).2 = true) := by
    refine (?_ : _ ∧ _)
    rw [hT']
    exact ⟨h, rfl⟩
  obtain ⟨res, hres⟩ : ∃ res, S.st (wsAt F C P L) = res := ⟨_, rfl⟩
  rw [hres] at HF HE ⊢
  obtain ⟨n, hnn⟩ : ∃ n, L.length = n := ⟨_, rfl⟩
  rw [hnn] at HE hl ⊢
  have HNN := Lib.hid hnn
  have HL := Lib.hid hL
  have HG := Lib.hid hg
  have HGF := Lib.hid hgf
  have HFN := Lib.hid hF
  have hn255 : n ≤ 256 := by omega
  have hF4 : F ≤ 4096 := by omega
  clear h hT hT' hin hnd hlen hfu hd hf hm hL hg hgf hres hnn
  go_enter Try.func32, Try.ntmps32
  go_wp2_with fail
  go_loopw [16] (fun i wr => ∃ (k : Nat) (f' : Nat → Prop), k ≤ n ∧ i = .int .i64 (k : Int) ∧ Hid ((T k).2 = true) ∧ Hid (RigR rb p0 p1 (T k).1 wr f') ∧ Hid (Turn f f' w wr)) (fun i _ => n - (intOf i).toNat)
  case atStart => exact ⟨0, f, Nat.zero_le _, rfl, H0.out.2, H0.out.1, Turn.refl _ _⟩
  case round =>
    obtain ⟨k, f1, hk, rfl, HK, HQ, HTU⟩ := hrel
    have hmx : Try.prog.follows .mixedOrders = true := by kernel_rfl
    by_cases hlt : k < n
    · have g3 : decide ((k : Int) < (n : Int)) = true := by simpa using hlt
      obtain ⟨b, hb⟩ : ∃ b, L[k]? = some b := ⟨_, List.getElem?_eq_getElem (by rw [HNN.out]; exact hlt)⟩
      have hbl : IsBlk (u8s b) := isBlk_u8s (HL.out b (List.mem_of_getElem? hb))
      have hb64 : (u8s b).length = 64 := by rw [u8s_length]; exact HL.out b (List.mem_of_getElem? hb)
      have hg' := rangeAt_same HG.out (HTU.out.out g hgl HGF.out)
      have LD : (loadVar 59 ⟨g, o + k * 64, none⟩).run Try.prog wr = .ok (.agg (u8s b).toArray) wr := load_blk (blk_at HL.out hg' hb) hb64
      obtain ⟨x2, ST2, hr2, hb2⟩ := new_blk wr hbl
      have LB : ∀ z : Ext x2, (loadVar 59 ⟨wr.heap.size, 0, none⟩).run Try.prog z.1 = .ok (.agg (u8s b).toArray) z.1 := fun z => (hr2.below z.2).blk hb64
      have HSX := HS.out k b hb HK.out
      obtain ⟨T2, hT2⟩ : ∃ T2, T (k + 1) = T2 := ⟨_, rfl⟩
      rw [hT2] at HSX
      have hway := HW.out k
      have HQ2 := HQ.out.beside hb2
      have HT2 : Hid (Turn f f1 w x2) := HTU.out.trans (Turn.of_below hb2)
      have HBL := Lib.hid hbl
      have HT2' := Lib.hid hT2
      have HSX' := Lib.hid HSX
      have HWR : Hid (∀ z : Ext x2, Calls Try.prog 20 #[.pointer (some ⟨rb, 0, none⟩), .int .i64 0, .int .i64 ((F + (P + k) % C : Nat) : Int), .agg (u8s b).toArray] z.1 fun e w' => e = .returned (.int .i64 ((T k).1.writeE 0 ((F + (P + k) % C : Nat) : Int))) ∧ ∃ f', RigR rb p0 p1 T2.1 w' f' ∧ Turn f1 f' z.1 w') := fun z => by
        have := (HQ2.beside z.2).write hway.1 (hway.2.1.mono (by omega)) 0 ((F + (P + k) % C : Nat) : Int) hbl
        rw [HSX]
        exact this
      have HSEC : Hid (∀ z : World, Calls Try.prog 36 #[.int .i64 (F : Int), .int .i64 (C : Int), .int .i64 ((P : Int) + (k : Int))] z fun e w' => e = .returned (.int .i64 ((F + (P + k) % C : Nat) : Int)) ∧ w' = z) := fun z => by
        have := rgSector (F := F) (C := C) (P := P + k) hC1 hC hF4 (by omega) z
        rwa [Int.natCast_add] at this
      have hE : (T k).1.writeE 0 ((F + (P + k) % C : Nat) : Int) = 0 ∨ (T k).1.writeE 0 ((F + (P + k) % C : Nat) : Int) = 14 := by
        have hi : F + (P + k) % C < (T k).1.n0 := by
          rw [hway.2.2]
          have := Nat.mod_lt (P + k) (show 0 < C by omega)
          have := HFN.out
          omega
        rcases ((T k).1.write0 hi (u8s b)).2 with ⟨_, e, _⟩ | ⟨_, e, _⟩
        · exact .inl e
        · exact .inr e
      obtain ⟨we, hwe⟩ : ∃ we, (T k).1.writeE 0 ((F + (P + k) % C : Nat) : Int) = we := ⟨_, rfl⟩
      rw [hwe] at HWR hE
      have hsx2 : T2.2 = decide (we = 0) := by rw [HSX, hwe]
      have HSX2 := Lib.hid hsx2
      obtain ⟨i, hi⟩ : ∃ i, F + (P + k) % C = i := ⟨_, rfl⟩
      rw [hi] at HWR HSEC
      clear hb hbl hb64 hg' hr2 HSX hway HQ2 hb2 hT2 HSX' hwe hsx2 hi
      go_wp2_with fail
      refine region_plan (fun x => ∃ y : Ext x2, x = y.1) 8 (.takes [0, 1, 2, 3, 4, 5, 7] (.one 6 .leaf)) hmx (by kernel_rfl) (by intro c x v a w h; cases x <;> exact h) ⟨⟨x2.drew, (Below.refl _ x2).drew⟩, rfl⟩ ?_
      repeat (rw [wpPlan_takes_cons]; simp only [nth_zero, nth_succ]; go_big_quiet_step (fail); refine wpQuiet_nil ?_)
      rw [wpPlan_takes_nil, wpPlan_one]
      simp only [nth_zero, nth_succ]
      clear LB
      obtain ⟨X, hX⟩ : ∃ X, x2.drew = X := ⟨_, rfl⟩
      have hbX : Below x2.heap.size x2 X := by rw [← hX]; exact (Below.refl _ x2).drew
      have HWX : Hid (Calls Try.prog 20 #[.pointer (some ⟨rb, 0, none⟩), .int .i64 0, .int .i64 (i : Int), .agg (u8s b).toArray] X fun e w' => e = .returned (.int .i64 we) ∧ ∃ f', RigR rb p0 p1 T2.1 w' f' ∧ Turn f1 f' X w') := HWR.out ⟨X, hbX⟩
      have HT3 : Hid (Turn f f1 w X) := HT2.out.trans (Turn.of_below hbX)
      have HBX := Lib.hid hbX
      rw [hX]
      clear hX hbX HWR HT2
      go_wp2_with fail
      go_at_call 36
      refine (HSEC.out _).mono ?_
      rintro e z ⟨rfl, hz⟩
      obtain rfl := hz.symm
      clear HSEC
      go_wp2_with fail
      refine planPost_mk ⟨⟨X, HBX.out⟩, rfl⟩ ?_
      rw [wpPlan_leaf]
      simp only [List.drop_succ_cons, List.drop_zero]
      go_wp2_with fail
      go_at_call 20
      refine HWX.out.mono ?_
      rintro e x5 ⟨rfl, f5, g1, g2⟩
      have Q5 := Lib.hid g1
      have T5 := Lib.hid (HT3.out.trans g2)
      clear g1 g2 HWX HT3
      by_cases h0 : we = 0
      · subst h0
        have HK2 : Hid ((T (k + 1)).2 = true) := by show _ = _; rw [HT2'.out, HSX2.out]; rfl
        have Q6 : Hid (RigR rb p0 p1 (T (k + 1)).1 x5 f5) := by show RigR _ _ _ _ _ _; rw [HT2'.out]; exact Q5.out
        go_wp2_with fail
        go_roundw
        case rel => exact ⟨k + 1, f5, hlt, by go_num, HK2, Q6, T5⟩
        case measure => simp [intOf]; omega
      · obtain rfl : we = 14 := hE.resolve_left h0
        have HR : Hid (res = (T2.1, 14)) := by
          show _ = _
          rw [← HT2'.out]
          exact HF.out (k + 1) (by rw [HT2'.out, HSX2.out]; rfl)
        go_wp2_with fail
        go_ret
        rw [HR.out]
        exact ⟨rfl, f5, Q5.out, T5.out⟩
    · have g3 : decide ((k : Int) < (n : Int)) = false := by simpa using hlt
      obtain rfl : k = n := by omega
      have hway := HW.out k
      have HFL := Lib.hid (HQ.out.flush hway.1 0)
      have HR := Lib.hid (HE.out HK.out)
      clear hway
      go_wp2_with fail
      go_at_call 54
      refine HFL.out.mono ?_
      rintro e x5 ⟨rfl, f5, g1, g2⟩
      have Q5 := Lib.hid g1
      have T5 := Lib.hid (HTU.out.trans g2)
      clear g1 g2 HFL
      go_wp2_with fail
      go_ret
      rw [HR.out]
      exact ⟨rfl, f5, Q5.out, T5.out⟩
end Go.Proofs.Ytfmgaakbfphpbaa

/- The developers' ring: encoded. -/
namespace Go.Proofs.Ytfmgaakbfphpbaa
open Go.RowKit Go.Shelf
set_option linter.unusedVariables false

/-- Whatever is no block, no body, no sector, no image and no log of the developers' is read and written cell by cell. -/
theorem loadVar_openD (t : TypeId) (h : t ≠ 59 ∧ t ≠ 107 ∧ t ≠ 79 ∧ t ≠ 81 ∧ t ≠ 48) (a : Addr) : loadVar t a = (do if ← isAgg t then pure (.agg (← loadCells a (← sizeOf t))) else load a) := rfl
theorem storeVar_openD (t : TypeId) (h : t ≠ 59 ∧ t ≠ 107 ∧ t ≠ 81 ∧ t ≠ 48) (a : Addr) (v : Value) : storeVar t a v = (do
    if v.cells.size ≠ (← sizeOf t) then stuck "storeVar: the value has not the size of the variable"
    storeCells a v.cells.toList) := rfl
attribute [-simp] Try.isAgg59 Try.zeroValue59 Try.isAgg79 Try.zeroValue79 Try.isAgg107 Try.zeroValue107 Try.isAgg81 Try.zeroValue81
attribute [-go_sem] loadVar storeVar run_equalIn_agg
attribute [local go_sem] zero_blk build_blk zero_bod zero_pg build_pg build_pg0 zero_imgD loadVar_openD storeVar_openD

set_option maxRecDepth 100000 in
theorem build_pg4 (m s i : Int) (c : List Value) (hc : c.length = 48) (w : World) :
    (Instr.build 107 #[(0, .int .u8 m), (1, .int .u32 s), (2, .int .i64 i), (3, .agg c.toArray)]).run Try.prog w = .ok (.agg (Value.int .u8 m :: .int .u32 s :: .int .i64 i :: c).toArray) w := by
  refine run_build w _ _ _ ?_
  have e : Instr.fill places4 zcs.toArray [(0, .int .u8 m), (1, .int .u32 s), (2, .int .i64 i), (3, .agg c.toArray)] = some (Value.int .u8 m :: .int .u32 s :: .int .i64 i :: c).toArray := by
    have h3 : Instr.fill places4 zcs.toArray [(0, .int .u8 m), (1, .int .u32 s), (2, .int .i64 i), (3, .agg c.toArray)] = Instr.fill places4 (((zcs.set 0 (.int .u8 m)).set 1 (.int .u32 s)).set 2 (.int .i64 i)).toArray [(3, .agg c.toArray)] := rfl
    have hz : (((zcs.set 0 (.int .u8 m)).set 1 (.int .u32 s)).set 2 (.int .i64 i)).toArray.size = 51 := by simp [zcs, u8s]
    rw [h3]
    have p3 : places4 3 = some (3, 48) := rfl
    simp only [Instr.fill, p3, Value.cells]
    refine (if_neg ?_).trans ?_
    · intro h
      rcases Bool.or_eq_true_iff.1 h with h | h
      · exact (of_decide_eq_true h) (by simpa using hc)
      · have h' : 3 + c.toArray.size > (((zcs.set 0 (.int .u8 m)).set 1 (.int .u32 s)).set 2 (.int .i64 i)).toArray.size := of_decide_eq_true h
        rw [hz, List.size_toArray, hc] at h'
        omega
    congr 1
    rw [← Array.foldl_toList, Array.toList_zipIdx, laid_from]
    apply Array.ext_getElem?
    intro j
    rw [laid_get c 3 _ j (by rw [hz, hc]; omega)]
    match j with
    | 0 => rfl
    | 1 => rfl
    | 2 => rfl
    | j + 3 =>
      by_cases hj : j < 48
      · rw [if_pos (by omega)]; simp
      · rw [if_neg (by omega), Array.getElem?_eq_none (by omega)]; simp; omega
  exact e
set_option maxRecDepth 100000 in
theorem new_imgD (x : World) (i : Img) (hi : i.body.length = 48) : ∃ y, (storeVar 81 ⟨x.heap.size, 0, none⟩ (.agg i.cells.toArray)).run Try.prog (x.alloc (.cells zim.toArray 81)) = .ok () y ∧ RowC y x.heap.size 81 i.cells ∧ Below x.heap.size x y :=
  ⟨_, store_new_imgD zim_size (Img.cells_length hi) (Img.cells_one i), RowC.new x _ _, below_new x _⟩
set_option maxRecDepth 100000 in
theorem img_bodC {x : World} {B : Nat} {i : Img} {t : TypeId} (h : RowC x B t i.cells) (hi : i.body.length = 48) : (loadVar 79 ⟨B, 1, none⟩).run Try.prog x = .ok (.agg (u8s i.body).toArray) x :=
  load_bod (row_part (a := [.int .i64 i.index]) (b := u8s i.body) h) (by rw [u8s_length, hi])
/-- The blocks of images. -/
def imgB (seq : Int) (t : List Img) : List (List Value) := t.map fun x => u8s (imgSct seq x).bytes
theorem imgB_length (seq : Int) (t : List Img) : (imgB seq t).length = t.length := by simp [imgB]
theorem txnB_u8s (seq : Int) (t : List Img) : (txnB seq t).map u8s = imgB seq t ++ [u8s (comSct seq t.length).bytes] := by
  unfold txnB imgB
  rw [List.map_append, List.map_map]
  rfl

set_option maxRecDepth 100000 in
set_option maxHeartbeats 4000000 in
/-- **encoded**. -/
theorem rgEncoded {w : World} {t : List Img} (hn : t.length ≤ 65535) (hok : ∀ x ∈ t, x.Ok) {seq : Int} (hs : IsSeq seq) {g c : Nat} (hg : w.rangeAt g 0 (imgR t).flatten) (hgl : g < w.heap.size) :
    Calls Try.prog 31 #[.int .u32 seq, .slice (some ⟨g, 0, none⟩) t.length c] w fun e w' =>
      ((∀ x ∈ t, x.fits) → ∃ v, e = .returned (.tuple #[v, .bool true]) ∧ w'.ownsRow w.heap.size 59 64 v ((txnB seq t).map u8s).length ((txnB seq t).map u8s).flatten) ∧
      ((¬ ∀ x ∈ t, x.fits) → e = .returned (.tuple #[.slice none 0 0, .bool false])) ∧ Below w.heap.size w w' := by
  obtain ⟨n, hnn⟩ : ∃ n, t.length = n := ⟨_, rfl⟩
  have HNN := Lib.hid hnn
  have HOK := Lib.hid hok
  have HSQ := Lib.hid hs
  have HG := Lib.hid hg
  rw [hnn] at hn ⊢
  clear hok hs hg hnn
  go_enter Try.func31, Try.ntmps31
  go_wp2_with fail
  go_loopw [4, 14] (fun l i wr => ∃ k : Nat, k ≤ n ∧ i = .int .i64 (k : Int) ∧ Hid (wr.ownsRow w.heap.size 59 64 l (imgB seq (t.take k)).length (imgB seq (t.take k)).flatten) ∧ Hid (Below w.heap.size w wr) ∧ Hid (∀ j x, j < k → t[j]? = some x → x.fits)) (fun _ i _ => n - (intOf i).toNat)
  case atStart => exact ⟨0, Nat.zero_le _, rfl, World.ownsRow_nil _ _ _ _, Below.refl _ _, fun j x h => absurd h (Nat.not_lt_zero _)⟩
  case round =>
    obtain ⟨k, hk, rfl, HO, HB, HK⟩ := hrel
    by_cases hlt : k < n
    · have g3 : decide ((k : Int) < (n : Int)) = true := by simpa using hlt
      obtain ⟨x, hx⟩ : ∃ x, t[k]? = some x := ⟨_, List.getElem?_eq_getElem (by rw [HNN.out]; exact hlt)⟩
      have hxo := HOK.out x (List.mem_of_getElem? hx)
      have hg' := range_below HB.out hgl HG.out
      have L0 : (loadVar 81 ⟨g, k * 49, none⟩).run Try.prog wr = .ok (.agg x.cells.toArray) wr := load_imgD (img_cells hg' HOK.out hx) (Img.cells_length hxo.len)
      obtain ⟨x1, ST1, hr1, hb1⟩ := new_imgD wr x hxo.len
      have B1 : Hid (Below w.heap.size w x1) := HB.out.trans (hb1.mono HB.out.size)
      have O1 := Lib.hid (own_below HO.out hb1)
      have c1 : x1.cell? ⟨wr.heap.size, 0, none⟩ = some (.int .i64 x.index) := hr1.cell 0 _ rfl
      have L1 := img_bodC hr1 hxo.len
      have BI : Hid ((Instr.build 107 #[(0, .int .u8 73), (1, .int .u32 seq), (2, .int .i64 x.index), (3, .agg (u8s x.body).toArray)]).run Try.prog x1 = .ok (.agg (imgSct seq x).cells.toArray) x1) := build_pg4 73 seq x.index (u8s x.body) (by rw [u8s_length]; exact hxo.len) x1
      have HX := Lib.hid hx
      have HXO := Lib.hid hxo
      have hP : (imgSct seq x).Ok := imgSct_ok HSQ.out hxo
      have HP := Lib.hid hP
      clear hx hxo hg' hr1 hb1 hP
      go_wp2_with (first | ((with_reducible refine gate_struct 107 ?_); refine wpList_struct_run _ _ rfl rfl [(0, .int .u8 73), (1, .int .u32 seq), (2, .int .i64 x.index), (3, .agg (u8s x.body).toArray)] _ rfl BI.out ?_))
      clear L0 ST1 c1 L1 BI
      go_at_call 53
      refine (pgEncode (imgSct seq x) HP.out x1).mono ?_
      rintro e x2 ⟨rfl, hb⟩
      obtain ⟨x3, ST3, hr3, hb3⟩ := new_blk x2 (isBlk_code HP.out)
      have b3 : Below x1.heap.size x1 x3 := hb.trans (hb3.mono hb.size)
      have B3 : Hid (Below w.heap.size w x3) := B1.out.trans (b3.mono B1.out.size)
      have O3 := Lib.hid (own_below O1.out b3)
      have L3 : (loadVar 59 ⟨x2.heap.size, 0, none⟩).run Try.prog x3 = .ok (.agg (imgSct seq x).code.toArray) x3 := hr3.blk (isBlk_code HP.out).length
      clear hb hr3 hb3 b3 O1 B1
      by_cases hft : x.fits
      · have eE : (imgSct seq x).codeE = 0 := by unfold Sct.codeE; rw [if_pos (imgSct_fits hft)]
        have eC : (imgSct seq x).code = u8s (imgSct seq x).bytes := by unfold Sct.code; rw [if_pos (imgSct_fits hft)]
        rw [eE]
        rw [eC] at ST3 L3 ⊢
        have hbl : IsBlk (u8s (imgSct seq x).bytes) := isBlk_u8s (Sct.bytes_length HP.out)
        obtain ⟨x4, hx4⟩ : ∃ y, x3.alloc (.cells (u8s (imgSct seq x).bytes).toArray 59) = y := ⟨_, rfl⟩
        have SB : Hid ((Instr.buildSlice 62 1 #[(0, .agg (u8s (imgSct seq x).bytes).toArray)]).run Try.prog x3 = .ok (.slice (some ⟨x3.heap.size, 0, none⟩) 1 1) x4) := by show _ = _; rw [← hx4]; exact slice_one x3 _ hbl.length
        have b4 : Below x3.heap.size x3 x4 := by rw [← hx4]; exact below_new x3 _
        have B4 : Below w.heap.size w x4 := B3.out.trans (b4.mono B3.out.size)
        have O4 := own_below O3.out b4
        obtain ⟨v6, x6, r6, o6, g6, -⟩ := append_blk w.heap.size x4 u4 (imgB seq (t.take k)) (u8s (imgSct seq x).bytes) x3.heap.size O4 hbl (row_range (t := 59) (by rw [← hx4]; exact heap_alloc_new x3 _)) (by rw [imgB_length, List.length_take]; omega) B4.size
        have R6 := Lib.hid r6
        have B6 : Hid (Below w.heap.size w x6) := B4.grown g6 B4.size (fun j e => (O4.lt j e).1)
        have O6 : Hid (x6.ownsRow w.heap.size 59 64 v6 (imgB seq (t.take (k + 1))).length (imgB seq (t.take (k + 1))).flatten) := by
          have e : imgB seq (t.take (k + 1)) = imgB seq (t.take k) ++ [u8s (imgSct seq x).bytes] := by
            rw [List.take_add_one, HX.out]
            unfold imgB
            rw [List.map_append]
            rfl
          show World.ownsRow _ _ _ _ _ _ _
          rw [e]
          exact o6
        have HK2 : Hid (∀ j z, j < k + 1 → t[j]? = some z → z.fits) := fun j z hj hz => by
          rcases Nat.lt_or_ge j k with h | h
          · exact HK.out j z h hz
          · obtain rfl : j = k := by omega
            rw [HX.out] at hz
            cases hz
            exact hft
        clear eE eC hbl hx4 b4 B4 O4 r6 o6 g6 hft
        go_wp2_with (first | ((with_reducible refine gate_build ?_); refine wpList_build_run _ _ _ rfl rfl [(0, .agg (u8s (imgSct seq x).bytes).toArray)] _ rfl SB.out ?_) | (at_builtin; refine wpList_append_run (.tmp 30) (.tmp 32) 62 rfl rfl _ _ _ rfl rfl R6.out ?_))
        go_roundw
        case rel => exact ⟨k + 1, hlt, by go_num, O6, B6, HK2⟩
        case measure => simp [intOf]; omega
      · have eE : (imgSct seq x).codeE = 11 := by unfold Sct.codeE; rw [if_neg (fun h => hft (of_decide_eq_true h).2)]
        have HBAD : Hid (¬ ∀ x ∈ t, x.fits) := fun h => hft (h x (List.mem_of_getElem? HX.out))
        rw [eE]
        clear eE hft
        go_wp2_with fail
        go_ret2
        exact ⟨fun h => absurd h HBAD.out, fun _ => rfl, B3.out⟩
    · have g3 : decide ((k : Int) < (n : Int)) = false := by simpa using hlt
      obtain rfl : k = n := by omega
      have HFT : Hid (∀ x ∈ t, x.fits) := fun x hx => by
        obtain ⟨j, hj⟩ := List.mem_iff_getElem?.1 hx
        exact HK.out j x (by have := (List.getElem?_eq_some_iff.1 hj).1; rw [HNN.out] at this; omega) hj
      have HO' : Hid (wr.ownsRow w.heap.size 59 64 u4 (imgB seq t).length (imgB seq t).flatten) := by
        have := HO.out
        rw [← HNN.out, List.take_length] at this
        exact this
      have hP : (comSct seq k).Ok := comSct_ok HSQ.out
      have hF : (comSct seq k).fits = true := comSct_fits hn
      have HP := Lib.hid hP
      have HF := Lib.hid hF
      clear hP hF HK HO
      go_wp2_with fail
      go_at_call 39
      refine (rgCommit seq k wr).mono ?_
      rintro e x1 ⟨rfl, hb1⟩
      have B1 : Hid (Below w.heap.size w x1) := HB.out.trans (hb1.mono HB.out.size)
      have O1 := Lib.hid (own_below HO'.out hb1)
      clear hb1
      go_wp2_with fail
      go_at_call 53
      refine (pgEncode (comSct seq k) HP.out x1).mono ?_
      rintro e x2 ⟨rfl, hb⟩
      have eE : (comSct seq k).codeE = 0 := by unfold Sct.codeE; rw [if_pos HF.out]
      have eC : (comSct seq k).code = u8s (comSct seq k).bytes := by unfold Sct.code; rw [if_pos HF.out]
      rw [eE, eC]
      have hbl : IsBlk (u8s (comSct seq k).bytes) := isBlk_u8s (Sct.bytes_length HP.out)
      obtain ⟨x3, ST3, hr3, hb3⟩ := new_blk x2 hbl
      have b3 : Below x1.heap.size x1 x3 := hb.trans (hb3.mono hb.size)
      have B3 : Below w.heap.size w x3 := B1.out.trans (b3.mono B1.out.size)
      have O3 := own_below O1.out b3
      have L3 : (loadVar 59 ⟨x2.heap.size, 0, none⟩).run Try.prog x3 = .ok (.agg (u8s (comSct seq k).bytes).toArray) x3 := hr3.blk hbl.length
      obtain ⟨x4, hx4⟩ : ∃ y, x3.alloc (.cells (u8s (comSct seq k).bytes).toArray 59) = y := ⟨_, rfl⟩
      have SB : Hid ((Instr.buildSlice 62 1 #[(0, .agg (u8s (comSct seq k).bytes).toArray)]).run Try.prog x3 = .ok (.slice (some ⟨x3.heap.size, 0, none⟩) 1 1) x4) := by show _ = _; rw [← hx4]; exact slice_one x3 _ hbl.length
      have b4 : Below x3.heap.size x3 x4 := by rw [← hx4]; exact below_new x3 _
      have B4 : Below w.heap.size w x4 := B3.trans (b4.mono B3.size)
      have O4 := own_below O3 b4
      obtain ⟨v6, x6, r6, o6, g6, -⟩ := append_blk w.heap.size x4 u4 (imgB seq t) (u8s (comSct seq k).bytes) x3.heap.size O4 hbl (row_range (t := 59) (by rw [← hx4]; exact heap_alloc_new x3 _)) (by rw [imgB_length, HNN.out]; omega) B4.size
      have R6 := Lib.hid r6
      have B6 : Hid (Below w.heap.size w x6) := B4.grown g6 B4.size (fun j e => (O4.lt j e).1)
      have O6 : Hid (x6.ownsRow w.heap.size 59 64 v6 ((txnB seq t).map u8s).length ((txnB seq t).map u8s).flatten) := by
        show World.ownsRow _ _ _ _ _ _ _
        rw [txnB_u8s, HNN.out]
        exact o6
      clear eE eC hbl hx4 b4 B4 O4 r6 o6 g6 hb hr3 hb3 b3 B3 O3 O1 B1
      go_wp2_with (first | ((with_reducible refine gate_build ?_); refine wpList_build_run _ _ _ rfl rfl [(0, .agg (u8s (comSct seq k).bytes).toArray)] _ rfl SB.out ?_) | (at_builtin; refine wpList_append_run (.tmp 43) (.tmp 45) 62 rfl rfl _ _ _ rfl rfl R6.out ?_))
      go_ret2
      exact ⟨fun _ => ⟨_, rfl, O6.out⟩, fun h => absurd HFT.out h, B6.out⟩
end Go.Proofs.Ytfmgaakbfphpbaa

/- The developers' ring: Append. -/
namespace Go.Proofs.Ytfmgaakbfphpbaa
open Go.RowKit Go.Shelf
set_option linter.unusedVariables false
attribute [-simp] Try.isAgg59 Try.zeroValue59 Try.isAgg79 Try.zeroValue79 Try.isAgg107 Try.zeroValue107 Try.isAgg81 Try.zeroValue81
attribute [-go_sem] loadVar storeVar run_equalIn_agg
attribute [local go_sem] zero_blk build_blk zero_bod zero_pg build_pg build_pg0 zero_imgD loadVar_openD storeVar_openD

set_option maxRecDepth 100000 in
theorem elem_blks : Try.prog.underlying 62 = some (.slice (Try.prog.elem 62)) := by kernel_rfl
set_option maxRecDepth 100000 in
theorem sizeOf_blks (W : World) : (sizeOf (Try.prog.elem 62)).run Try.prog W = .ok 64 W := by kernel_rfl
set_option maxRecDepth 100000 in
theorem cut_blk_hi (W : World) {g o n c K : Nat} (hK : K ≤ n) (hc : n ≤ c) : (Instr.sliceAt 62 (.slice (some ⟨g, o, none⟩) n c) none (some (.int .i64 (K : Int))) none).run Try.prog W = .ok (.slice (some ⟨g, o, none⟩) K c) W := by
  rw [run_sliceAt_slice (h := elem_blks), run_slice_h (ht := elem_blks) (kh := .i64) (h0 := by omega) (h2 := by omega), sizeOf_blks]
  simp only [Result.andThen, sliced, Int.toNat_natCast, Nat.zero_mul, add_none, ite_self, Nat.sub_zero]
set_option maxRecDepth 100000 in
theorem cut_blk_lo (W : World) {g o n c K : Nat} (hK : K < n) (hc : n ≤ c) : (Instr.sliceAt 62 (.slice (some ⟨g, o, none⟩) n c) (some (.int .i64 (K : Int))) none none).run Try.prog W = .ok (.slice (some ⟨g, o + K * 64, none⟩) (n - K) (c - K)) W := by
  rw [run_sliceAt_slice (h := elem_blks), run_slice_l (ht := elem_blks) (kl := .i64) (h0 := by omega) (h1 := by omega), sizeOf_blks]
  simp only [Result.andThen, sliced, Int.toNat_natCast]
  rw [if_neg (by omega)]
  simp [Addr.add]
theorem own_row {x : World} {N e sz n : Nat} {v : Value} {xs : List Value} (h : x.ownsRow N e sz v n xs) (hn : 0 < n) : ∃ g c, v = .slice (some ⟨g, 0, none⟩) n c ∧ N ≤ g ∧ n ≤ c ∧ g < x.heap.size ∧ x.rangeAt g 0 xs := by
  rcases h.2 with ⟨rfl, rfl⟩ | ⟨g, cap, cur, rfl, h1, hg, h2, _⟩
  · exact absurd hn (by omega)
  · refine ⟨g, cap, rfl, h1, h2, (Array.getElem?_eq_some_iff.1 hg).1, fun j u hj => ?_⟩
    have := h.cells (g := g) rfl j u hj
    rwa [Addr.add_mid] at this
theorem flat_take {L : List (List Value)} {n : Nat} (hn : n ≤ L.length) : ∃ r, L.flatten = (L.take n).flatten ++ r := ⟨(L.drop n).flatten, by rw [← List.flatten_append, List.take_append_drop]⟩
theorem range_take {w : World} {g o : Nat} {a b : List Value} (h : w.rangeAt g o (a ++ b)) : w.rangeAt g o a := fun j u hj => h j u (by rw [List.getElem?_append_left (List.getElem?_eq_some_iff.1 hj).1]; exact hj)
theorem range_drop {w : World} {g o k : Nat} {a b : List Value} (h : w.rangeAt g o (a ++ b)) (hk : a.length = k) : w.rangeAt g (o + k) b := fun j u hj => by
  have := h (k + j) u (by rw [List.getElem?_append_right (by omega), hk, Nat.add_sub_cancel_left]; exact hj)
  rwa [← Nat.add_assoc] at this

section
set_option maxRecDepth 100000
set_option maxHeartbeats 4000000
set_option maxRecDepth 100000 in
/-- .. of no such ring. -/
theorem rgAppend_no0 {v : Value} {n0 : Nat} {w : World} (hn : n0 ≤ 4096) (HL : ∀ x, Below w.heap.size w x → Calls Try.prog 52 #[v, .int .i64 0] x fun e w' => e = .returned (.int .i64 (n0 : Int)) ∧ Below x.heap.size x w') {frm count at0 seq : Int} (hm : mayR n0 frm count at0 = false) {a : Option Addr} {n c : Nat} :
    Calls Try.prog 13 #[v, .int .i64 frm, .int .i64 count, .int .i64 at0, .int .u32 seq, .slice a n c] w fun e w' => e = .returned (.tuple #[.int .i64 0, .int .i64 1]) ∧ Below w.heap.size w w' := by
  have HF := Lib.hid (rgFits hn frm count at0 w (HL w (Below.refl _ _)))
  rw [hm] at HF
  clear HL hm hn
  go_enter Try.func13, Try.ntmps13
  go_wp2_with fail
  go_at_call 30
  refine HF.out.mono ?_
  rintro e x ⟨rfl, hb⟩
  have HB := Lib.hid hb
  clear hb
  go_wp2_with fail
  go_ret2
  exact ⟨rfl, HB.out⟩
set_option maxRecDepth 100000 in
theorem rgAppend_no {rb p0 p1 : Nat} {S : RS} {w : World} {f : Nat → Prop} (h : RigR rb p0 p1 S w f) (hn : S.n0 ≤ 4096) {frm count at0 seq : Int} (hm : mayR S.n0 frm count at0 = false) {a : Option Addr} {n c : Nat} :
    Calls Try.prog 13 #[.pointer (some ⟨rb, 0, none⟩), .int .i64 frm, .int .i64 count, .int .i64 at0, .int .u32 seq, .slice a n c] w fun e w' => e = .returned (.tuple #[.int .i64 0, .int .i64 1]) ∧ Below w.heap.size w w' :=
  rgAppend_no0 hn (fun x hx => (h.beside hx).len 0) hm
set_option maxRecDepth 100000 in
theorem rgAppend_nil (frm count at0 seq : Int) (w : World) {a : Option Addr} {n c : Nat} :
    Calls Try.prog 13 #[.pointer none, .int .i64 frm, .int .i64 count, .int .i64 at0, .int .u32 seq, .slice a n c] w fun e w' => e = .returned (.tuple #[.int .i64 0, .int .i64 1]) ∧ Below w.heap.size w w' :=
  rgAppend_no0 (n0 := 0) (by omega) (fun x _ => nil_len 0 x) (by unfold mayR; exact decide_eq_false (by omega))
set_option maxRecDepth 100000 in
theorem rgFits_yes {rb p0 p1 : Nat} {S : RS} {w : World} {f : Nat → Prop} (h : RigR rb p0 p1 S w f) (hn : S.n0 ≤ 4096) {F C A : Nat} (hC2 : 2 ≤ C) (hC : C ≤ 256) (hF : F + C ≤ S.n0) (hA : A < C) :
    Calls Try.prog 30 #[.pointer (some ⟨rb, 0, none⟩), .int .i64 (F : Int), .int .i64 (C : Int), .int .i64 (A : Int)] w fun e w' => e = .returned (.bool true) ∧ Below w.heap.size w w' := by
  have := rgFits hn F C A w (h.len 0)
  rw [show mayR S.n0 F C A = true by unfold mayR; simp; omega] at this
  exact this
set_option maxRecDepth 100000 in
/-- .. of no pages, or too many. -/
theorem rgAppend_long {rb p0 p1 : Nat} {S : RS} {w : World} {f : Nat → Prop} (h : RigR rb p0 p1 S w f) (hn : S.n0 ≤ 4096) {F C A : Nat} (hC2 : 2 ≤ C) (hC : C ≤ 256) (hF : F + C ≤ S.n0) (hA : A < C) {seq : Int} {a : Option Addr} {n c : Nat} (hl : n < 1 ∨ C < n + 1) (hnb : n ≤ 1000000) :
    Calls Try.prog 13 #[.pointer (some ⟨rb, 0, none⟩), .int .i64 (F : Int), .int .i64 (C : Int), .int .i64 (A : Int), .int .u32 seq, .slice a n c] w fun e w' => e = .returned (.tuple #[.int .i64 0, .int .i64 2]) ∧ Below w.heap.size w w' := by
  have HF := Lib.hid (rgFits_yes h hn hC2 hC hF hA)
  clear h hF hn hA
  by_cases h1 : n < 1
  · obtain rfl : n = 0 := by omega
    clear h1 hl hnb
    go_enter Try.func13, Try.ntmps13
    go_wp2_with fail
    go_at_call 30
    refine HF.out.mono ?_
    rintro e x ⟨rfl, hb⟩
    have HB := Lib.hid hb
    clear hb
    go_wp2_with fail
    go_ret2
    exact ⟨rfl, HB.out⟩
  · have g1 : ((n : Int) == 0) = false := by simp; omega
    have g2 : decide ((C : Int) - 1 < (n : Int)) = true := by simp; omega
    have g2' : decide ((n : Int) > (C : Int) - 1) = true := g2
    go_enter Try.func13, Try.ntmps13
    go_wp2_with fail
    go_at_call 30
    refine HF.out.mono ?_
    rintro e x ⟨rfl, hb⟩
    have HB := Lib.hid hb
    clear hb
    go_wp2_with fail
    go_ret2
    exact ⟨rfl, HB.out⟩
set_option maxRecDepth 100000 in
/-- .. of a page that may not be. -/
theorem rgAppend_bad {rb p0 p1 : Nat} {S : RS} {w : World} {f : Nat → Prop} (h : RigR rb p0 p1 S w f) (hn : S.n0 ≤ 4096) {F C A : Nat} (hC2 : 2 ≤ C) (hC : C ≤ 256) (hF : F + C ≤ S.n0) (hA : A < C) {seq : Int} (hs : IsSeq seq) {t : List Img} (n1 : 1 ≤ t.length) (n2 : t.length + 1 ≤ C) (hok : ∀ x ∈ t, x.Ok) (hbad : ¬ ∀ x ∈ t, x.fits) {g c : Nat} (hg : w.rangeAt g 0 (imgR t).flatten) (hgl : g < w.heap.size) :
    Calls Try.prog 13 #[.pointer (some ⟨rb, 0, none⟩), .int .i64 (F : Int), .int .i64 (C : Int), .int .i64 (A : Int), .int .u32 seq, .slice (some ⟨g, 0, none⟩) t.length c] w fun e w' => e = .returned (.tuple #[.int .i64 0, .int .i64 1]) ∧ Below w.heap.size w w' := by
  have HF := Lib.hid (rgFits_yes h hn hC2 hC hF hA)
  have HE : Hid (∀ x, Below w.heap.size w x → Calls Try.prog 31 #[.int .u32 seq, .slice (some ⟨g, 0, none⟩) t.length c] x fun e w' => e = .returned (.tuple #[.slice none 0 0, .bool false]) ∧ Below x.heap.size x w') := fun x hx =>
    (rgEncoded (by omega) hok hs (range_below hx hgl hg) (Nat.lt_of_lt_of_le hgl hx.size)).mono fun e w' hh => ⟨hh.2.1 hbad, hh.2.2⟩
  obtain ⟨n, hnn⟩ : ∃ n, t.length = n := ⟨_, rfl⟩
  rw [hnn] at n1 n2 HE ⊢
  have g1 : ((n : Int) == 0) = false := by simp; omega
  have g2 : decide ((C : Int) - 1 < (n : Int)) = false := by simp; omega
  have g2' : decide ((n : Int) > (C : Int) - 1) = false := g2
  clear h hF hn hA hok hbad hg hgl hnn
  go_enter Try.func13, Try.ntmps13
  go_wp2_with fail
  go_at_call 30
  refine HF.out.mono ?_
  rintro e x ⟨rfl, hb⟩
  have HB := Lib.hid hb
  have HE2 := Lib.hid (HE.out x hb)
  clear hb
  go_wp2_with fail
  go_at_call 31
  refine HE2.out.mono ?_
  rintro e y ⟨rfl, hb⟩
  have HB2 : Hid (Below w.heap.size w y) := HB.out.trans (hb.mono HB.out.size)
  clear hb
  go_wp2_with fail
  go_ret2
  exact ⟨rfl, HB2.out⟩
end

set_option maxRecDepth 100000 in
set_option maxHeartbeats 4000000 in
/-- **Append**. -/
theorem rgAppend {rb p0 p1 : Nat} {S : RS} {w : World} {f : Nat → Prop} (h : RigR rb p0 p1 S w f) (hfu : S.fuse ≤ 1000000) (hd0 : 0 ≤ S.done) (hd1 : S.done ≤ 900000) (hf : S.Few 250) {F C A : Nat} (hC2 : 2 ≤ C) (hC : C ≤ 256) (hF : F + C ≤ S.n0) (hA : A < C) (hn : S.n0 ≤ 4096) {seq : Int} (hs : IsSeq seq)
    {t : List Img} (ht : TxnOk C t) {g c : Nat} (hg : w.rangeAt g 0 (imgR t).flatten) (hgl : g < w.heap.size) (hgf : ¬ f g) :
    Calls Try.prog 13 #[.pointer (some ⟨rb, 0, none⟩), .int .i64 (F : Int), .int .i64 (C : Int), .int .i64 (A : Int), .int .u32 seq, .slice (some ⟨g, 0, none⟩) t.length c] w fun e w' =>
      e = .returned (.tuple #[.int .i64 (if (S.app F C A seq t).2 = 0 then (((A + t.length + 1) % C : Nat) : Int) else 0), .int .i64 (S.app F C A seq t).2]) ∧ ∃ f', RigR rb p0 p1 (S.app F C A seq t).1 w' f' ∧ Turn f f' w w' := by
  have HF := Lib.hid (rgFits_yes h hn hC2 hC hF hA)
  have n1 := ht.least
  have n2 := ht.most
  have HE : Hid (∀ x, Below w.heap.size w x → Calls Try.prog 31 #[.int .u32 seq, .slice (some ⟨g, 0, none⟩) t.length c] x fun e w' => (∃ v, e = .returned (.tuple #[v, .bool true]) ∧ w'.ownsRow x.heap.size 59 64 v ((txnB seq t).map u8s).length ((txnB seq t).map u8s).flatten) ∧ Below x.heap.size x w') := fun x hx =>
    (rgEncoded (by omega) ht.ok hs (range_below hx hgl hg) (Nat.lt_of_lt_of_le hgl hx.size)).mono fun e w' hh => ⟨hh.1 ht.fits, hh.2.2⟩
  have hin : ∀ P L, ∀ x ∈ wsAt F C P L, x.1 < S.n0 := fun P L => wsAt_in (by omega) hF
  have htl : ((txnB seq t).take t.length).length = t.length := by rw [List.length_take, txnB_length]; omega
  have hdl : ((txnB seq t).drop t.length).length = 1 := by rw [List.length_drop, txnB_length]; omega
  have h64 : ∀ b ∈ txnB seq t, b.length = 64 := fun b hb => by
    unfold txnB at hb
    rcases List.mem_append.1 hb with hb | hb
    · obtain ⟨x, hx, rfl⟩ := List.mem_map.1 hb
      exact Sct.bytes_length (imgSct_ok hs (ht.ok x hx))
    · simp at hb
      rw [hb]
      exact Sct.bytes_length (comSct_ok hs)
  obtain ⟨s1, s2, s3, s4, s5, s6⟩ := RS.st_spec (hin A ((txnB seq t).take t.length)) (wsAt_nodup (by omega)) hf (by omega)
  have hst := S.app_st F C A seq t
  rw [wsAt_length, htl] at s4
  have HST1 : Hid (∀ (x : World) (B c : Nat), RigR rb p0 p1 S x f → x.rangeAt B 0 ((txnB seq t).map u8s).flatten → B < x.heap.size → ¬ f B →
      Calls Try.prog 32 #[.pointer (some ⟨rb, 0, none⟩), .int .i64 (F : Int), .int .i64 (C : Int), .int .i64 (A : Int), .slice (some ⟨B, 0, none⟩) t.length c] x fun e w' => e = .returned (.int .i64 (S.st (wsAt F C A ((txnB seq t).take t.length))).2) ∧ ∃ f', RigR rb p0 p1 (S.st (wsAt F C A ((txnB seq t).take t.length))).1 w' f' ∧ Turn f f' x w') := fun x B c hx hr hB hfB => by
    have := rgStore (P := A) (c := c) hx (by omega) ⟨hd0, by omega⟩ hf (by omega) (by omega) hC hF hn (by omega) (L := (txnB seq t).take t.length) (fun b hb => h64 b (List.mem_of_mem_take hb)) (by omega) (g := B) (o := 0) (by
      obtain ⟨r, e⟩ := flat_take (L := (txnB seq t).map u8s) (n := t.length) (by simp [txnB_length])
      rw [e] at hr
      rw [List.map_take]
      exact range_take hr) hB hfB
    rw [htl] at this
    exact this
  have HST2 : Hid (∀ (x : World) (B c : Nat) (f' : Nat → Prop), RigR rb p0 p1 (S.st (wsAt F C A ((txnB seq t).take t.length))).1 x f' → x.rangeAt B 0 ((txnB seq t).map u8s).flatten → B < x.heap.size → ¬ f' B →
      Calls Try.prog 32 #[.pointer (some ⟨rb, 0, none⟩), .int .i64 (F : Int), .int .i64 (C : Int), .int .i64 ((A : Int) + (t.length : Int)), .slice (some ⟨B, t.length * 64, none⟩) 1 c] x fun e w' => e = .returned (.int .i64 (((S.st (wsAt F C A ((txnB seq t).take t.length))).1.st (wsAt F C (A + t.length) ((txnB seq t).drop t.length))).2)) ∧ ∃ f'', RigR rb p0 p1 ((S.st (wsAt F C A ((txnB seq t).take t.length))).1.st (wsAt F C (A + t.length) ((txnB seq t).drop t.length))).1 w' f'' ∧ Turn f' f'' x w') := fun x B c f' hx hr hB hfB => by
    have := rgStore (P := A + t.length) (c := c) hx (by omega) ⟨by omega, by omega⟩ s5 (by omega) (by omega) hC (by rw [s1]; exact hF) (by rw [s1]; exact hn) (by omega) (L := (txnB seq t).drop t.length) (fun b hb => h64 b (List.mem_of_mem_drop hb)) (by omega) (g := B) (o := t.length * 64) (by
      have e : ((txnB seq t).map u8s).flatten = (((txnB seq t).map u8s).take t.length).flatten ++ (((txnB seq t).map u8s).drop t.length).flatten := by rw [← List.flatten_append, List.take_append_drop]
      rw [e] at hr
      rw [List.map_drop]
      have := range_drop hr (k := t.length * 64) (by
        rw [← List.map_take, flat_len (s := 64) (fun x hx => by obtain ⟨y, hy, rfl⟩ := List.mem_map.1 hx; rw [u8s_length]; exact h64 y (List.mem_of_mem_take hy)), List.length_map, htl])
      rwa [Nat.zero_add] at this) hB hfB
    rw [hdl, Int.natCast_add] at this
    exact this
  have HLT : Hid (∀ j, f j → j < w.heap.size) := (RigR.isRes rb p0 p1 S).lt h
  have hlen : ((txnB seq t).map u8s).length = t.length + 1 := by rw [List.length_map, txnB_length]
  obtain ⟨a1, ha1⟩ : ∃ a, S.st (wsAt F C A ((txnB seq t).take t.length)) = a := ⟨_, rfl⟩
  rw [ha1] at hst HST1 HST2 s6
  obtain ⟨a2, ha2⟩ : ∃ a, a1.1.st (wsAt F C (A + t.length) ((txnB seq t).drop t.length)) = a := ⟨_, rfl⟩
  rw [ha2] at hst HST2
  obtain ⟨R, hR⟩ : ∃ R, S.app F C A seq t = R := ⟨_, rfl⟩
  rw [hR] at hst ⊢
  have HRR := Lib.hid hst
  have H := Lib.hid h
  have h2E : a2.2 = 0 ∨ a2.2 = 14 := by
    have := (RS.st_spec (S := a1.1) (l := wsAt F C (A + t.length) ((txnB seq t).drop t.length)) (by rw [← ha1, s1]; exact hin _ _) (wsAt_nodup (by omega)) (by rw [← ha1]; exact s5) (by omega)).2.2.2.2.2
    rwa [ha2] at this
  obtain ⟨ys, hys⟩ : ∃ ys, (txnB seq t).map u8s = ys := ⟨_, rfl⟩
  rw [hys] at HE HST1 HST2 hlen
  obtain ⟨n, hnn⟩ : ∃ n, t.length = n := ⟨_, rfl⟩
  rw [hnn] at n1 n2 HE HST1 HST2 hlen ⊢
  have g1 : ((n : Int) == 0) = false := by simp; omega
  have g2 : decide ((C : Int) - 1 < (n : Int)) = false := by simp; omega
  have g2' : decide ((n : Int) > (C : Int) - 1) = false := g2
  have hYL := Lib.hid hlen
  obtain ⟨r1, hr1⟩ : ∃ r, (if R.2 = 0 then (((A + n + 1) % C : Nat) : Int) else 0) = r := ⟨_, rfl⟩
  obtain ⟨r2, hr2⟩ : ∃ r, R.2 = r := ⟨_, rfl⟩
  rw [hr1, hr2]
  have HR1 := Lib.hid hr1
  have HR2 := Lib.hid hr2
  clear h hfu hd0 hd1 hf hF hn hs ht hg hgl hgf hin htl hdl h64 s1 s2 s3 s4 s5 hst hR ha1 ha2 hys hnn hlen hr1 hr2
  go_enter Try.func13, Try.ntmps13
  go_wp2_with fail
  go_at_call 30
  refine HF.out.mono ?_
  rintro e x1 ⟨rfl, hb1⟩
  have HB1 := Lib.hid hb1
  have HE2 := Lib.hid (HE.out x1 hb1)
  clear hb1 HE HF
  go_wp2_with fail
  go_at_call 31
  refine HE2.out.mono ?_
  rintro e x2 ⟨⟨v, rfl, hO⟩, hb2⟩
  have HB2 : Hid (Below w.heap.size w x2) := HB1.out.trans (hb2.mono HB1.out.size)
  rw [hYL.out] at hO
  obtain ⟨B, cc, rfl, hBN, hBc, hBl, hBr⟩ := own_row hO (by omega)
  have hBw : w.heap.size ≤ B := Nat.le_trans HB1.out.size hBN
  have hfB : ¬ f B := fun h => Nat.lt_irrefl _ (Nat.lt_of_lt_of_le (HLT.out B h) hBw)
  have HC1 := Lib.hid (HST1.out x2 B cc (H.out.beside HB2.out) hBr hBl hfB)
  have SL1 : Hid (∀ W : World, (Instr.sliceAt 62 (.slice (some ⟨B, 0, none⟩) (n + 1) cc) none (some (.int .i64 (n : Int))) none).run Try.prog W = .ok (.slice (some ⟨B, 0, none⟩) n cc) W) := fun W => cut_blk_hi W (by omega) hBc
  have SL2 : Hid (∀ W : World, (Instr.sliceAt 62 (.slice (some ⟨B, 0, none⟩) (n + 1) cc) (some (.int .i64 (n : Int))) none none).run Try.prog W = .ok (.slice (some ⟨B, n * 64, none⟩) 1 (cc - n)) W) := fun W => by
    have := cut_blk_lo W (g := B) (o := 0) (n := n + 1) (c := cc) (K := n) (by omega) hBc
    rwa [Nat.zero_add, Nat.add_sub_cancel_left] at this
  have HBR := Lib.hid hBr
  have HFB := Lib.hid hfB
  clear hO hb2 HE2 HST1 hBr hfB hBw hBN
  go_wp2_with ((with_reducible refine gate_slice 49 ?_); refine wpList_slice_run (.tmp 49) 62 none (some (.tmp 50)) rfl rfl _ _ _ _ rfl rfl rfl (SL1.out _) ?_)
  go_at_call 32
  refine HC1.out.mono ?_
  rintro e x3 ⟨rfl, f3, q3, t3⟩
  have T3 : Hid (Turn f f3 w x3) := (Turn.of_below HB2.out).trans t3
  have Q3 := Lib.hid q3
  have hBr3 : x3.rangeAt B 0 ys.flatten := rangeAt_same HBR.out (t3.out B hBl HFB.out)
  have hBl3 : B < x3.heap.size := Nat.lt_of_lt_of_le hBl t3.size
  have hfB3 : ¬ f3 B := fun h => (t3.new B h).elim HFB.out (fun h => Nat.lt_irrefl _ (Nat.lt_of_lt_of_le hBl h))
  have HC2 := Lib.hid (HST2.out x3 B (cc - n) f3 q3 hBr3 hBl3 hfB3)
  clear q3 t3 hBr3 hBl3 hfB3 HST2 HC1
  by_cases h1 : a1.2 = 0
  · have hR : Hid (R = a2) := by show R = a2; rw [HRR.out, if_pos h1]
    rw [h1]
    go_wp2_with ((with_reducible refine gate_slice 62 ?_); refine wpList_slice_run (.tmp 62) 62 (some (.tmp 63)) none rfl rfl _ _ _ _ rfl rfl rfl (SL2.out _) ?_)
    go_at_call 32
    refine HC2.out.mono ?_
    rintro e x4 ⟨rfl, f4, q4, t4⟩
    have T4 : Hid (Turn f f4 w x4) := T3.out.trans t4
    have Q4 := Lib.hid q4
    clear q4 t4 HC2
    by_cases h2 : a2.2 = 0
    · have hr : Hid (r1 = (((A + n + 1) % C : Nat) : Int) ∧ r2 = 0) := by refine (?_ : _ ∧ _); rw [← HR1.out, ← HR2.out, hR.out, h2]; exact ⟨if_pos rfl, rfl⟩
      rw [h2]
      have hCz : ¬ ((C : Int) = 0) := by omega
      obtain ⟨i, hi⟩ : ∃ i, (A + n + 1) % C = i := ⟨_, rfl⟩
      have hii : ((A : Int) + ((n : Int) + 1)) % (C : Int) = (i : Int) := by rw [← hi, Int.natCast_emod]; congr 1
      rw [hi] at hr
      have HII := Lib.hid hii
      clear hi hii
      go_wp2_with fail
      go_ret2
      rw [hr.out.1, hr.out.2, hR.out, ← HII.out]
      exact ⟨rfl, f4, Q4.out, T4.out⟩
    · have h14 := h2E.resolve_left h2
      have hr : Hid (r1 = 0 ∧ r2 = 14) := by refine (?_ : _ ∧ _); rw [← HR1.out, ← HR2.out, hR.out, h14]; exact ⟨if_neg (by omega), rfl⟩
      rw [h14]
      clear h2 h14
      go_wp2_with fail
      go_ret2
      rw [hr.out.1, hr.out.2, hR.out]
      exact ⟨rfl, f4, Q4.out, T4.out⟩
  · have h14 := s6.resolve_left h1
    have hR : Hid (R = a1) := by show R = a1; rw [HRR.out, if_neg h1]
    have hr : Hid (r1 = 0 ∧ r2 = 14) := by refine (?_ : _ ∧ _); rw [← HR1.out, ← HR2.out, hR.out, h14]; exact ⟨if_neg (by omega), rfl⟩
    rw [h14]
    clear h1
    go_wp2_with fail
    go_ret2
    rw [hr.out.1, hr.out.2, hR.out]
    exact ⟨rfl, f3, Q3.out, T3.out⟩
end Go.Proofs.Ytfmgaakbfphpbaa

/- Replaying as the developers do it: one place after the other; no program. Transactions whose images lie ahead of a block. -/
namespace Go.Proofs.Ytfmgaakbfphpbaa
open Go.RowKit
set_option linter.unusedVariables false

/-- What replaying yields, when so many images of the transaction that is begun have been read. -/
def conGo (rd : Nat → List Int) (F C : Nat) : Nat → List (List Img) → Nat → Int → Nat → List Img → List (List Img) × Nat × Int
  | 0, ts, A, q, _, _ => (ts, A, q)
  | f + 1, ts, A, q, k, acc =>
    match oneGo (turnG rd F C A) q (C - k) k acc with
    | none => (ts, A, q)
    | some t => repGo rd F C f ((A + t.length + 1) % C) ((q + 1) % 4294967296) (ts ++ [t])
theorem con_succ (rd : Nat → List Int) (F C f : Nat) (ts : List (List Img)) (A : Nat) (q : Int) (k : Nat) (acc : List Img) : conGo rd F C (f + 1) ts A q k acc = (match oneGo (turnG rd F C A) q (C - k) k acc with
    | none => (ts, A, q)
    | some t => repGo rd F C f ((A + t.length + 1) % C) ((q + 1) % 4294967296) (ts ++ [t])) := rfl
theorem con_start (rd : Nat → List Int) (F C f : Nat) (ts : List (List Img)) (A : Nat) (q : Int) : conGo rd F C f ts A q 0 [] = repGo rd F C f A q ts := by
  cases f with
  | zero => rfl
  | succ f => rfl
theorem decS_img {bs : List Int} (h : (decS bs).mark = 73 ∨ (decS bs).mark = 67) : decOk bs = true ∧ decS bs = Sct.of bs := by
  unfold decS at h ⊢
  by_cases hd : decOk bs = true
  · rw [if_pos hd]; exact ⟨hd, rfl⟩
  · rw [if_neg hd] at h
    rcases h with h | h <;> cases h
theorem con_img {rd : Nat → List Int} {F C f : Nat} {ts : List (List Img)} {A : Nat} {q : Int} {k : Nat} {acc : List Img} {bs : List Int} (hb : turnG rd F C A k = bs) (hk : k + 1 < C) (h1 : (decS bs).mark = 73) (h2 : (decS bs).seq = q) :
    conGo rd F C (f + 1) ts A q k acc = conGo rd F C (f + 1) ts A q (k + 1) (acc ++ [⟨(decS bs).index, (decS bs).body⟩]) := by
  obtain ⟨hd, e⟩ := decS_img (.inl h1)
  rw [e] at h1 h2 ⊢
  have : oneGo (turnG rd F C A) q (C - k) k acc = oneGo (turnG rd F C A) q (C - (k + 1)) (k + 1) (acc ++ [⟨(Sct.of bs).index, (Sct.of bs).body⟩]) := by
    rw [show C - k = (C - (k + 1)) + 1 by omega]
    conv => lhs; unfold oneGo
    rw [hb, hd, h2, h1, if_neg (by simp), if_neg (by omega), if_neg (by omega)]
  rw [con_succ, con_succ, this]
theorem con_com {rd : Nat → List Int} {F C f : Nat} {ts : List (List Img)} {A : Nat} {q : Int} {k : Nat} {acc : List Img} {bs : List Int} (hb : turnG rd F C A k = bs) (hk : k < C) (hk1 : 1 ≤ k) (ha : acc.length = k) (h : decS bs = comSct q k) :
    conGo rd F C (f + 1) ts A q k acc = repGo rd F C f ((A + k + 1) % C) ((q + 1) % 4294967296) (ts ++ [acc]) := by
  obtain ⟨hd, e⟩ := decS_img (bs := bs) (.inr (by rw [h]; rfl))
  rw [e] at h
  have : oneGo (turnG rd F C A) q (C - k) k acc = some acc := by
    rw [show C - k = (C - (k + 1)) + 1 by omega]
    unfold oneGo
    rw [hb, hd, h, if_neg (by simp [comSct]), if_pos (by simp [comSct]), if_neg (by rintro (h | h | h); omega; exact h rfl; exact h rfl)]
  rw [con_succ, this]
  simp only [ha]
theorem con_stop {rd : Nat → List Int} {F C f : Nat} {ts : List (List Img)} {A : Nat} {q : Int} {k : Nat} {acc : List Img} {bs : List Int} (hb : turnG rd F C A k = bs) (hk : k < C) (h1 : ¬ (((decS bs).mark = 73 ∧ (decS bs).seq = q) ∧ k + 1 < C)) (h2 : ¬ (1 ≤ k ∧ decS bs = comSct q k)) :
    conGo rd F C (f + 1) ts A q k acc = (ts, A, q) := by
  have : oneGo (turnG rd F C A) q (C - k) k acc = none := by
    rw [show C - k = (C - (k + 1)) + 1 by omega]
    unfold oneGo
    rw [hb]
    by_cases hd : decOk bs = true
    · have e : decS bs = Sct.of bs := by unfold decS; rw [if_pos hd]
      rw [e] at h1 h2
      by_cases hq : (Sct.of bs).seq = q
      · rw [if_neg (by rintro (h | h); rw [hd] at h; cases h; exact h hq)]
        by_cases hm : (Sct.of bs).mark = 67
        · rw [if_pos hm]
          refine if_pos ?_
          rcases Nat.lt_or_ge k 1 with h | h
          · exact .inl h
          · right
            by_cases hi : (Sct.of bs).index = k
            · right
              intro hz
              refine h2 ⟨h, ?_⟩
              rw [show Sct.of bs = ⟨(Sct.of bs).mark, (Sct.of bs).seq, (Sct.of bs).index, (Sct.of bs).body⟩ from rfl, hm, hq, hi, hz]
              rfl
            · exact .inl hi
        · rw [if_neg hm]
          by_cases hm3 : (Sct.of bs).mark = 73
          · have : C - (k + 1) = 0 := by
              rcases Nat.lt_or_ge (k + 1) C with h | h
              · exact absurd ⟨⟨hm3, hq⟩, h⟩ h1
              · omega
            rw [if_neg (by simpa using hm3), this]
            rfl
          · rw [if_pos hm3]
      · rw [if_pos (.inr hq)]
    · rw [if_pos (.inl (by simpa using hd))]
  rw [con_succ, this]
/-- Transactions that have been made since block N, their images ahead of block M. -/
def TxnsM (x : World) (N M : Nat) (v : Value) (ts : List (List Img)) : Prop :=
  ∃ vs : List Value, vs.length = ts.length ∧ x.ownsRow N 38 1 v vs.length vs ∧ ∀ (i : Nat) (u : Value) (t : List Img), vs[i]? = some u → ts[i]? = some t → x.ownsRow N 81 49 u t.length (imgR t).flatten ∧ ∀ j, u.ownBlock = some j → j < M
section
variable {x y : World} {N M : Nat} {v : Value} {ts : List (List Img)}
theorem TxnsM.toR (h : TxnsM x N M v ts) : TxnsR 38 81 x N v ts := by
  obtain ⟨vs, h1, h2, h3⟩ := h
  exact ⟨vs, h1, h2, fun i u t hu ht => (h3 i u t hu ht).1⟩
theorem TxnsM.nil (x : World) (N M : Nat) : TxnsM x N M (.slice none 0 0) [] := ⟨[], rfl, World.ownsRow_nil _ _ _ _, fun i u t h => by simp at h⟩
theorem TxnsM.below (h : TxnsM x N M v ts) (hb : Below x.heap.size x y) : TxnsM y N M v ts := by
  obtain ⟨vs, h1, h2, h3⟩ := h
  exact ⟨vs, h1, own_belowT h2 hb, fun i u t hu ht => ⟨own_belowT (h3 i u t hu ht).1 hb, (h3 i u t hu ht).2⟩⟩
theorem TxnsM.grownC {B : Nat} {C : List Value} {t : TypeId} (h : TxnsM x N M v ts) (hB : RowC x B t C) (h1 : 38 ≠ t) (h2 : 81 ≠ t) (hg : x.grownBy y (some B)) : TxnsM y N M v ts := by
  obtain ⟨vs, g1, g2, g3⟩ := h
  exact ⟨vs, g1, g2.kept hg (.inr (row_ne g2 hB h1)), fun i w t hw ht => ⟨(g3 i w t hw ht).1.kept hg (.inr (row_ne (g3 i w t hw ht).1 hB h2)), (g3 i w t hw ht).2⟩⟩
theorem TxnsM.grownI {iv : Value} {n : Nat} {xs : List Value} (h : TxnsM x N M v ts) (hi : x.ownsRow M 81 49 iv n xs) (hg : x.grownBy y iv.ownBlock) : TxnsM y N M v ts := by
  obtain ⟨vs, g1, g2, g3⟩ := h
  refine ⟨vs, g1, g2.kept hg (rows_ne g2 hi (by decide)), fun i w t hw ht => ⟨(g3 i w t hw ht).1.kept hg ?_, (g3 i w t hw ht).2⟩⟩
  cases hw' : w.ownBlock with
  | none => exact .inl rfl
  | some j =>
    right
    intro e
    have h1 := (g3 i w t hw ht).2 j hw'
    have h2 := (hi.lt j e.symm).1
    omega
set_option maxRecDepth 100000 in
/-- A transaction appended to transactions. -/
theorem append_slsM {w : World} {t : List Img} {a : Option Addr} {c B : Nat} (h : TxnsM w N M v ts) (ht : w.ownsRow M 81 49 (.slice a t.length c) t.length (imgR t).flatten) (hNM : N ≤ M) (hMw : M ≤ w.heap.size)
    (hB : RowC w B 38 [.slice a t.length c]) (hlen : ts.length ≤ 1000000) :
    ∃ v' w', (Builtin.append_ #[46, 46] 46 #[v, .slice (some ⟨B, 0, none⟩) 1 1]).run Try.prog w = .ok v' w' ∧ TxnsM w' N w.heap.size v' (ts ++ [t]) ∧ w.grownBy w' v.ownBlock := by
  obtain ⟨i0, hi, hz0, hz1, hz2⟩ := info_parts info_slsD
  obtain ⟨vs, g1, g2, g3⟩ := h
  obtain ⟨v', w', hr, h1, h2, _⟩ := run_append_own (P := Try.prog) w N 46 46 38 i0 (.slice none 0 0) 1 24 Try.underlying46 hi hz0 hz1 hz2 rfl (by decide) v vs.length vs g2
    ⟨B, 0, none⟩ 1 1 [.slice a t.length c] rfl (fun j u hj => by have := hB.range j u hj; rwa [Addr.add_mid]) (fun u hu => by simp at hu; rw [hu]; rfl) (by unfold maxLen; omega) (by omega) (by omega)
  have hk : ∀ {n : Nat} {u : Value} {xs : List Value}, w.ownsRow N 81 49 u n xs → w'.ownsRow N 81 49 u n xs := fun hu => hu.kept h2 (rows_ne hu g2 (by decide))
  refine ⟨v', w', hr, ⟨vs ++ [.slice a t.length c], by simp [g1], by simpa using h1, fun i u s hu hs => ?_⟩, h2⟩
  by_cases hi : i < vs.length
  · rw [List.getElem?_append_left hi] at hu
    rw [List.getElem?_append_left (by omega)] at hs
    exact ⟨hk (g3 i u s hu hs).1, fun j hj => by have := (g3 i u s hu hs).2 j hj; omega⟩
  · rw [List.getElem?_append_right (by omega)] at hu hs
    rw [g1] at hu
    cases hj : i - ts.length with
    | zero =>
      rw [hj] at hu hs
      simp at hu hs
      subst hu
      subst hs
      exact ⟨hk (own_from ht hNM), fun j hj => (ht.lt j hj).2⟩
    | succ j =>
      rw [hj] at hu
      simp at hu
end
end Go.Proofs.Ytfmgaakbfphpbaa

/- Rigs whose fast disk holds bytes. -/
namespace Go.Proofs.Ytfmgaakbfphpbaa
open Go.RowKit
set_option linter.unusedVariables false

/-- Sixty-four bytes. -/
def BB (c : List Value) : Prop := ∃ bs, c = u8s bs ∧ IsBytes bs ∧ bs.length = 64
structure Sec.BB (s : Sec) : Prop where
  c : Go.Proofs.Ytfmgaakbfphpbaa.BB s.c
  vs : ∀ v ∈ s.vs, Go.Proofs.Ytfmgaakbfphpbaa.BB v
theorem BB.fill {n : Int} (h : 0 ≤ n ∧ n < 256) : BB (fillB n) := ⟨List.replicate 64 n, by unfold fillB u8s; rw [List.map_replicate], fun j => by
  rw [List.getElem?_replicate]
  split
  · exact h
  · decide, List.length_replicate⟩
theorem Sec.BB.look {s : Sec} (h : s.BB) : Go.Proofs.Ytfmgaakbfphpbaa.BB s.look := by
  unfold Sec.look
  cases e : s.vs.getLast? with
  | none => exact h.c
  | some v => exact h.vs v (List.mem_of_getLast? e)
theorem Sec.BB.add {s : Sec} (h : s.BB) {b : List Value} (hb : Go.Proofs.Ytfmgaakbfphpbaa.BB b) : (s.add b).BB := by
  unfold Sec.add
  split
  · exact ⟨h.c, fun v hv => by
      rcases List.mem_or_eq_of_mem_set hv with h1 | h1
      · exact h.vs v h1
      · exact h1 ▸ hb⟩
  · exact ⟨h.c, fun v hv => by
      rcases List.mem_append.1 hv with h1 | h1
      · exact h.vs v h1
      · rw [List.mem_singleton] at h1
        exact h1 ▸ hb⟩
theorem Sec.BB.settle {s : Sec} (h : s.BB) (k : Nat) : (s.settle k).BB := by
  unfold Sec.settle
  refine ⟨?_, fun v hv => by cases hv⟩
  show Go.Proofs.Ytfmgaakbfphpbaa.BB (if k = 0 then s.c else s.vs[k - 1]?.getD s.c)
  split
  · exact h.c
  · cases e : s.vs[k - 1]? with
    | none => exact h.c
    | some v => exact h.vs v (List.mem_of_getElem? e)
def RS.BB (S : RS) : Prop := ∀ i, (S.D0 i).BB
section
variable {S : RS}
theorem newS_bb (n0 n1 : Nat) : (newS n0 n1).BB := fun i => ⟨BB.fill (by omega), fun v hv => by cases hv⟩
theorem RS.after_bb (h : S.BB) : S.after.BB := fun i => by rw [S.after_same.2.2.1]; exact h i
theorem RS.BB.put (h : S.BB) (dev : Int) (i : Nat) {b : List Value} (hb : Go.Proofs.Ytfmgaakbfphpbaa.BB b) : (S.put dev i b).BB := by
  unfold RS.put
  split
  · intro j
    show (upd S.D0 i ((S.D0 i).add b) j).BB
    unfold upd
    split
    · exact (h i).add hb
    · exact h j
  · exact h
theorem RS.BB.fl (h : S.BB) (dev : Int) : (S.fl dev).BB := by
  unfold RS.fl
  split
  · intro j
    show (flTo S.D0 S.n0 j).BB
    unfold flTo
    split
    · exact ⟨(h j).look, fun v hv => by cases hv⟩
    · exact h j
  · exact h
theorem RS.BB.write (h : S.BB) (dev i : Int) {b : List Value} (hb : Go.Proofs.Ytfmgaakbfphpbaa.BB b) : (S.write dev i b).BB := by
  unfold RS.write
  split
  · split
    · exact (RS.after_bb h).put dev i.toNat hb
    · exact RS.after_bb h
  · exact h
theorem RS.BB.flush (h : S.BB) (dev : Int) : (S.flush dev).BB := by
  unfold RS.flush
  split
  · split
    · exact (RS.after_bb h).fl dev
    · exact RS.after_bb h
  · exact h
theorem RS.BB.wrs : ∀ (l : List (Nat × List Value)) {S : RS}, S.BB → (∀ x ∈ l, Go.Proofs.Ytfmgaakbfphpbaa.BB x.2) → (S.wrs l).1.BB
  | [], S, h, _ => h
  | (i, b) :: l, S, h, hl => by
    have h1 := h.write 0 (i : Int) (hl (i, b) List.mem_cons_self)
    unfold RS.wrs
    split
    · exact RS.BB.wrs l h1 fun x hx => hl x (List.mem_cons_of_mem _ hx)
    · exact h1
theorem txnW_bb {frm count at0 : Nat} {seq : Int} {t : List Img} (hs : IsSeq seq) (hok : ∀ x ∈ t, x.Ok) : ∀ x ∈ txnW frm count at0 seq t, BB x.2 := by
  intro x hx
  unfold txnW at hx
  obtain ⟨y, hy, rfl⟩ := List.mem_map.1 hx
  have hm : y.1 ∈ txnB seq t := by
    have := List.mem_zipIdx hy
    simp only [Nat.zero_add] at this
    rw [this.2.2]
    exact List.getElem_mem _
  unfold txnB at hm
  rcases List.mem_append.1 hm with h | h
  · obtain ⟨z, hz, e⟩ := List.mem_map.1 h
    exact ⟨y.1, rfl, e ▸ Sct.bytes_bytes (imgSct_ok hs (hok z hz)), e ▸ Sct.bytes_length (imgSct_ok hs (hok z hz))⟩
  · rw [List.mem_singleton] at h
    exact ⟨y.1, rfl, h ▸ Sct.bytes_bytes (comSct_ok hs), h ▸ Sct.bytes_length (comSct_ok hs)⟩
theorem RS.BB.app (h : S.BB) {frm count at0 : Nat} {seq : Int} {t : List Img} (hs : IsSeq seq) (hok : ∀ x ∈ t, x.Ok) : (S.app frm count at0 seq t).1.BB := by
  have hw := txnW_bb (frm := frm) (count := count) (at0 := at0) hs hok
  have h1 := RS.BB.wrs ((txnW frm count at0 seq t).take t.length) h (fun x hx => hw x (List.mem_of_mem_take hx))
  have h2 := RS.BB.wrs ((txnW frm count at0 seq t).drop t.length) (h1.flush 0) (fun x hx => hw x (List.mem_of_mem_drop hx))
  unfold RS.app
  split
  · exact h1
  · split
    · exact h1.flush 0
    · split
      · exact h2
      · split
        · exact h2.flush 0
        · exact h2.flush 0
theorem RS.BB.crash (h : S.BB) (b0 b1 : List Int) : (S.crash b0 b1).BB := by
  intro j
  show (settled S.D0 (crashG S.D0 b0) (looseTo S.D0 S.n0) j).BB
  unfold settled
  split
  · exact (h j).settle _
  · exact h j
theorem RS.BB.byt (h : S.BB) : S.Byt := fun i _ => by
  obtain ⟨bs, e, h1, h2⟩ := (h i).look
  have : S.rd i = bs := by unfold RS.rd; rw [e, byt_u8s]
  rw [this]
  exact ⟨h1, h2, e⟩
end
end Go.Proofs.Ytfmgaakbfphpbaa

/- The trial of layer 6: what its ring holds; no program. -/
namespace Go.Proofs.Ytfmgaakbfphpbaa
open Go.RowKit
set_option linter.unusedVariables false

theorem imgV_ok {i v : Int} (h : 0 ≤ v ∧ v < 256) : (imgV i v).Ok := ⟨List.length_replicate, fun j => by
  show 0 ≤ ((List.replicate 48 v)[j]?).getD 0 ∧ ((List.replicate 48 v)[j]?).getD 0 < 256
  rw [List.getElem?_replicate]
  split
  · exact h
  · decide⟩
def kT0 : List Img := [imgV 3 7, imgV 4 8]
theorem kT0_ok : TxnOk 8 kT0 := ⟨by decide, by decide, fun x hx => by
    simp only [kT0, List.mem_cons, List.not_mem_nil, or_false] at hx
    rcases hx with rfl | rfl
    · exact imgV_ok (by omega)
    · exact imgV_ok (by omega), fun x hx => by
    simp only [kT0, List.mem_cons, List.not_mem_nil, or_false] at hx
    rcases hx with rfl | rfl
    · show (0 : Int) ≤ 3 ∧ (3 : Int) ≤ 65535; omega
    · show (0 : Int) ≤ 4 ∧ (4 : Int) ≤ 65535; omega⟩
theorem seq5 : IsSeq 5 := by unfold IsSeq; omega
theorem seq6 : IsSeq 6 := by unfold IsSeq; omega
theorem newS_rd (n0 n1 i : Nat) : (newS n0 n1).rd i = List.replicate 64 0 := by
  unfold RS.rd
  show byt (zsec.look) = _
  show byt (fillB 0) = _
  unfold byt fillB
  rw [List.map_replicate]
  rfl
theorem newS_ring {n0 n1 frm count p0 : Nat} {q0 : Int} (h1 : frm + count ≤ n0) (h2 : 2 ≤ count) (h3 : count ≤ 256) (h4 : p0 < count) (hq : IsSeq q0) : RingIs (newS n0 n1) frm count p0 q0 [] :=
  { room := h1, two := h2, most := h3, at0 := h4, seq := hq, ok := (fun t ht => by cases ht), fits := Nat.zero_le _, lay := fun k hk => absurd hk (Nat.not_lt_zero _) }
theorem newS_restZ (n0 n1 frm count p0 : Nat) : RestZ (newS n0 n1) frm count p0 0 := fun k _ _ => by rw [newS_rd]; exact decOk_zeros
noncomputable def kT : RS := ((newS 12 1).app 2 8 6 5 kT0).1
theorem kT_code : ((newS 12 1).app 2 8 6 5 kT0).2 = 0 ∧ kT.Up := RS.app_up (newS_up 12 1) (by omega) (by show 2 + 8 ≤ 12; omega)
theorem kT_ring : RingIs kT 2 8 6 5 [kT0] ∧ RestZ kT 2 8 6 3 := by
  have h0 : RingIs (newS 12 1) 2 8 6 5 [] := newS_ring (by omega) (by omega) (by omega) (by omega) seq5
  have hz : RestZ (newS 12 1) 2 8 6 0 := newS_restZ _ _ _ _ _
  exact ⟨h0.app kT0_ok (by decide) (fun i _ => Nat.zero_le _) kT_code.1, h0.appZ hz kT0_ok (by decide) (fun i _ => Nat.zero_le _) kT_code.1⟩
theorem kT_rep : repS kT.rd 2 8 6 5 = ([kT0], 1, 6) := kT_ring.1.rep (RestZ.ends kT_ring.1 kT_ring.2)
theorem kT_n0 : kT.n0 = 12 := (RS.app_cases (S := newS 12 1) (frm := 2) (count := 8) (at0 := 6) (seq := 5) (t := kT0) (by omega) (by show 2 + 8 ≤ 12; omega)).1.n0
theorem kT_bb : kT.BB := (newS_bb 12 1).app seq5 kT0_ok.ok
/-- With the next sequence there is none. -/
theorem kT_none : repS kT.rd 2 8 6 6 = ([], 6, 6) := by
  have h := kT_ring.1
  obtain ⟨b, h1, h2⟩ := lay_first (t := kT0) (ts := []) seq5 ⟨imgV 3 7, rfl, kT0_ok.ok _ List.mem_cons_self, kT0_ok.fits _ List.mem_cons_self⟩
  have h3 := h.lay 0 (by decide)
  rw [h1] at h3
  have h4 : b = kT.rd (2 + (6 + 0) % 8) := Option.some.inj h3
  have hn : oneS kT.rd 2 8 6 6 = none := oneS_none 0 (.inr (by rw [← h4, h2]; decide)) (fun k hk => absurd hk (Nat.not_lt_zero _))
  unfold repS repGo
  rw [hn]
end Go.Proofs.Ytfmgaakbfphpbaa

/- The trial of layer 6 comes to true. -/
namespace Go.Proofs.Ytfmgaakbfphpbaa
open Go.RowKit Go.Shelf
set_option linter.unusedVariables false
attribute [-simp] Try.isAgg59 Try.zeroValue59 Try.isAgg79 Try.zeroValue79 Try.isAgg102 Try.zeroValue102 Try.isAgg95 Try.zeroValue95 Try.isAgg81 Try.zeroValue81
attribute [-go_sem] loadVar storeVar run_equalIn_agg
attribute [local go_sem] zero_blk build_blk zero_bod build_bod zero_sec zero_imgR zero_imgD loadVar_open6 storeVar_open6

set_option maxRecDepth 100000 in
theorem slice_two (w : World) : (Instr.buildSlice 38 2 #[(0, .agg (imgV 3 7).cells.toArray), (1, .agg (imgV 4 8).cells.toArray)]).run Try.prog w = .ok (.slice (some ⟨w.heap.size, 0, none⟩) 2 2) (w.alloc (.cells (imgR kT0).flatten.toArray 81)) := by kernel_rfl
set_option maxRecDepth 100000 in
theorem eq_imgs (w : World) : (Op.equalIn 10000 81 (.agg (imgV 4 8).cells.toArray) (.agg (imgV 4 8).cells.toArray)).run Try.prog w = .ok true w := by kernel_rfl
set_option maxRecDepth 100000 in
theorem size_logD : (Try.prog.info? 48).map (·.size) = some 3 := by kernel_rfl
set_option maxRecDepth 100000 in
theorem store_newLD {w : World} {a b c a' b' c' : Value} (h : a'.oneCell' = true ∧ b'.oneCell' = true ∧ c'.oneCell' = true) :
    (storeVar 48 ⟨w.heap.size, 0, none⟩ (.agg #[a', b', c'])).run Try.prog (w.alloc (.cells #[a, b, c] 48)) = .ok () (w.alloc (.cells #[a', b', c'] 48)) :=
  run_storeVar_new w _ _ #[a', b', c'] size_logD rfl (by simp [h])

set_option maxRecDepth 100000 in
set_option maxHeartbeats 8000000 in
theorem ringWakes (HK : RingOk) (w : World) : Calls Try.prog 9 #[] w fun e w' => e = .returned (.bool true) ∧ Below w.heap.size w w' := by
  have HKK := Lib.hid HK
  clear HK
  go_enter Try.func9, Try.ntmps9
  go_wp2_with fail
  refine (RAt.new 12 1 w w (Below.refl _ _) (by omega) (by omega) (by omega) (by omega) (fun _ => False) (fun _ h => h.elim)).mono ?_
  rintro e w1 ⟨rb, p0, p1, rfl, a0, -⟩
  have A0 : Hid (RAt w w1 rb p0 p1 (newS 12 1) (fun _ => False)) := a0
  clear a0
  go_wp2_with fail
  refine (lawImage 3 7 _).mono ?_
  rintro e w2 ⟨rfl, hb2⟩
  go_wp2_with fail
  refine (lawImage 4 8 _).mono ?_
  rintro e w3 ⟨rfl, hb3⟩
  have hb13 := hb2.trans (hb3.mono hb2.size)
  obtain ⟨w4, hw4⟩ : ∃ x, w3.alloc (.cells (imgR kT0).flatten.toArray 81) = x := ⟨_, rfl⟩
  have hb4 : Below w3.heap.size w3 w4 := by rw [← hw4]; exact below_new w3 _
  have hg4 : w4.rangeAt w3.heap.size 0 (imgR kT0).flatten := row_range (t := 81) (by rw [← hw4]; exact heap_alloc_new w3 _)
  have hl4 : w3.heap.size < w4.heap.size := by rw [← hw4]; simp
  have A4 : Hid (RAt w w4 rb p0 p1 (newS 12 1) (fun k => k = w3.heap.size)) := (A0.out.beside hb13).below hb4 _ (fun k hk => .inr ⟨by omega, by omega⟩)
  have SB : Hid ((Instr.buildSlice 38 2 #[(0, .agg (imgV 3 7).cells.toArray), (1, .agg (imgV 4 8).cells.toArray)]).run Try.prog w3 = .ok (.slice (some ⟨w3.heap.size, 0, none⟩) 2 2) w4) := by
    show _ = _
    rw [← hw4]
    exact slice_two w3
  have HAP : Hid (Calls Try.prog 13 #[.pointer (some ⟨rb, 0, none⟩), .int .i64 2, .int .i64 8, .int .i64 6, .int .u32 5, .slice (some ⟨w3.heap.size, 0, none⟩) 2 2] w4 fun e w' => e = .returned (.tuple #[.int .i64 1, .int .i64 0]) ∧ RAt w w' rb p0 p1 kT (fun k => k = w3.heap.size)) := by
    refine (AtR.call (R := fun e _ => e = .returned (.tuple #[.int .i64 1, .int .i64 0])) (RigR.isRes rb p0 p1 kT) A4.out (fun f h1 h2 => ?_)).mono (fun e w' h => ⟨h.1, h.2.1⟩)
    have := HKK.out.append h1 (by decide) (by decide) (by decide) (few_newS 12 1 250) (F := 2) (C := 8) (A := 6) (by omega) (by omega) (by show 2 + 8 ≤ 12; omega) (by omega) (by show 12 ≤ 4096; omega) seq5 kT0_ok (g := w3.heap.size) (c := 2) hg4 hl4 (fun hh => (h2 _ hh).2 rfl)
    rw [kT_code.1] at this
    exact this
  clear hb2 hb3 hb13 hb4 hg4 hl4 hw4 A0 A4
  go_wp2_with (first | ((with_reducible refine gate_build ?_); refine wpList_build_run _ _ _ rfl rfl [(0, .agg (imgV 3 7).cells.toArray), (1, .agg (imgV 4 8).cells.toArray)] _ rfl SB.out ?_))
  refine HAP.out.mono ?_
  rintro e w5 ⟨rfl, a5⟩
  have A5 := Lib.hid a5
  clear a5 HAP SB
  have HRP : Hid (Calls Try.prog 15 #[.pointer (some ⟨rb, 0, none⟩), .int .i64 2, .int .i64 8, .int .i64 6, .int .u32 5] w5 fun e w' => (∃ v, e = .returned (.tuple #[.agg #[v, .int .i64 1, .int .u32 6], .int .i64 0]) ∧ TxnsR 38 81 w' w5.heap.size v [kT0]) ∧ Below w5.heap.size w5 w') := by
    refine AtR.look A5.out (fun f h1 => ?_)
    have := HKK.out.replay h1 kT_bb.byt kT_code.2.down (F := 2) (C := 8) (A := 6) (by omega) (by omega) (by rw [kT_n0]; omega) (by omega) (by rw [kT_n0]; omega) seq5
    rw [kT_rep] at this
    exact this
  have HRN : Hid (∀ x : World, Below w5.heap.size w5 x → Calls Try.prog 15 #[.pointer (some ⟨rb, 0, none⟩), .int .i64 2, .int .i64 8, .int .i64 6, .int .u32 6] x fun e w' => (∃ v, e = .returned (.tuple #[.agg #[v, .int .i64 6, .int .u32 6], .int .i64 0]) ∧ TxnsR 38 81 w' x.heap.size v []) ∧ Below x.heap.size x w') := fun x hx => by
    refine AtR.look (A5.out.beside hx) (fun f h1 => ?_)
    have := HKK.out.replay h1 kT_bb.byt kT_code.2.down (F := 2) (C := 8) (A := 6) (by omega) (by omega) (by rw [kT_n0]; omega) (by omega) (by rw [kT_n0]; omega) seq6
    rw [kT_none] at this
    exact this
  have HB5 : Hid (Below w.heap.size w w5) := AtR.bel A5.out
  go_wp2_with fail
  refine HRP.out.mono ?_
  rintro e w6 ⟨⟨v, rfl, ht⟩, hb6⟩
  obtain ⟨ra, c, rfl, hat⟩ := ht.at
  obtain ⟨g, rfl, hgl, rc, d, hc0, hrc⟩ := hat 0 kT0 rfl
  obtain ⟨b, rfl, hbl, hrb⟩ := hrc (by decide)
  rw [show kT0.length = 2 from rfl] at hc0
  rw [show ([kT0] : List (List Img)).length = 1 from rfl]
  have ST6 := store_newLD (w := w6) (a := .slice none 0 0) (b := .int .i64 0) (c := .int .u32 0) (a' := .slice (some ⟨g, 0, none⟩) 1 c) (b' := .int .i64 1) (c' := .int .u32 6) ⟨rfl, rfl, rfl⟩
  obtain ⟨w7, hw7⟩ : ∃ x, w6.alloc (.cells #[.slice (some ⟨g, 0, none⟩) 1 c, .int .i64 1, .int .u32 6] 48) = x := ⟨_, rfl⟩
  rw [hw7] at ST6
  have b7 : Below w6.heap.size w6 w7 := by rw [← hw7]; exact below_new w6 _
  have r7 : RowC w7 w6.heap.size 48 [.slice (some ⟨g, 0, none⟩) 1 c, .int .i64 1, .int .u32 6] := by rw [← hw7]; exact RowC.new w6 _ _
  have b57 : Below w5.heap.size w5 w7 := hb6.trans (b7.mono hb6.size)
  obtain ⟨B5, hB5⟩ : ∃ b, w6.heap.size = b := ⟨_, rfl⟩
  have hc7 := (b7.cell (p := ⟨g, 0, none⟩) hgl).trans hc0
  have hr7 := range_below b7 hbl hrb
  have gl7 := Nat.lt_of_lt_of_le hgl b7.size
  have bl7 := Nat.lt_of_lt_of_le hbl b7.size
  rw [hB5] at r7 ST6
  have R7 := Lib.hid r7
  have HN7 := HRN.out w7 b57
  clear hw7 hat hrc hrb hc0 hgl hbl ht r7
  go_wp2_with fail
  refine HN7.mono ?_
  rintro e w8 ⟨⟨v2, rfl, ht⟩, hb8⟩
  obtain ⟨ra2, c2, rfl, -⟩ := ht.at
  rw [show ([] : List (List Img)).length = 0 from rfl]
  have ST8 := store_newLD (w := w8) (a := .slice none 0 0) (b := .int .i64 0) (c := .int .u32 0) (a' := .slice ra2 0 c2) (b' := .int .i64 6) (c' := .int .u32 6) ⟨rfl, rfl, rfl⟩
  obtain ⟨w9, hw9⟩ : ∃ x, w8.alloc (.cells #[.slice ra2 0 c2, .int .i64 6, .int .u32 6] 48) = x := ⟨_, rfl⟩
  rw [hw9] at ST8
  have b9 : Below w8.heap.size w8 w9 := by rw [← hw9]; exact below_new w8 _
  have r9 : RowC w9 w8.heap.size 48 [.slice ra2 0 c2, .int .i64 6, .int .u32 6] := by rw [← hw9]; exact RowC.new w8 _ _
  have b79 : Below w7.heap.size w7 w9 := hb8.trans (b9.mono hb8.size)
  obtain ⟨B7, hB7⟩ : ∃ b, w8.heap.size = b := ⟨_, rfl⟩
  rw [hB7] at r9 ST8
  have HF : Hid (Below w.heap.size w w9) := HB5.out.trans ((b57.trans (b79.mono b57.size)).mono HB5.out.size)
  have Z : Hid (∀ x : Ext w9, Below w7.heap.size w7 x.1) := fun x => b79.trans (x.2.mono b79.size)
  have C0 : ∀ x : Ext w9, x.1.cell? ⟨B5, 0, none⟩ = some (.slice (some ⟨g, 0, none⟩) 1 c) := fun x => (R7.out.below (Z.out x)).cell 0 _ rfl
  have C1 : ∀ x : Ext w9, x.1.cell? ⟨B5, 1, none⟩ = some (.int .i64 1) := fun x => (R7.out.below (Z.out x)).cell 1 _ rfl
  have C2 : ∀ x : Ext w9, x.1.cell? ⟨B5, 2, none⟩ = some (.int .u32 6) := fun x => (R7.out.below (Z.out x)).cell 2 _ rfl
  have D0 : ∀ x : Ext w9, x.1.cell? ⟨B7, 0, none⟩ = some (.slice ra2 0 c2) := fun x => (r9.below x.2).cell 0 _ rfl
  have D1 : ∀ x : Ext w9, x.1.cell? ⟨B7, 1, none⟩ = some (.int .i64 6) := fun x => (r9.below x.2).cell 1 _ rfl
  have D2 : ∀ x : Ext w9, x.1.cell? ⟨B7, 2, none⟩ = some (.int .u32 6) := fun x => (r9.below x.2).cell 2 _ rfl
  have E0 : ∀ x : Ext w9, x.1.cell? ⟨g, 0, none⟩ = some (.slice (some ⟨b, 0, none⟩) 2 d) := fun x => ((Z.out x).cell (p := ⟨g, 0, none⟩) gl7).trans hc7
  have E1 : ∀ x : Ext w9, (loadVar 81 ⟨b, 49, none⟩).run Try.prog x.1 = .ok (.agg (imgV 4 8).cells.toArray) x.1 := fun x => load_imgD (img_cells (range_below (Z.out x) bl7 hr7) kT0_ok.ok (k := 1) (x := imgV 4 8) rfl) (Img.cells_length (by simp [imgV]))
  have EQ : ∀ x : Ext w9, (Op.equalIn 10000 81 (.agg (imgV 4 8).cells.toArray) (.agg (imgV 4 8).cells.toArray)).run Try.prog x.1 = .ok true x.1 := fun x => eq_imgs x.1
  have HIM : Hid (∀ x : Ext w9, Calls Try.prog 27 #[.int .i64 4, .int .u8 8] x.1 fun e w'' => e = .returned (.agg (imgV 4 8).cells.toArray) ∧ ∃ y : Ext w9, w'' = y.1) := fun x => calls_ext x (lawImage 4 8 x.1)
  clear hw9 b9 b79 hb8 r9 ht HN7 HRN HRP hc7 hr7 gl7 bl7
  go_wp2_with fail
  clear ST6 ST8
  refine region_ext (by kernel_rfl) (by kernel_rfl) ?_
  simp only [List.append_eq, List.cons_append, List.nil_append]
  repeat (go_big_quiet_step (with_reducible (first | exact HIM.out _)))
  refine wpQuiet_nil ?_
  intro x
  have HFX : Hid (Below w.heap.size w x.1) := HF.out.trans (x.2.mono HF.out.size)
  clear C0 C1 C2 D0 D1 D2 E0 E1 EQ
  go_wp2_with fail
  go_ret
  exact ⟨rfl, HFX.out⟩
end Go.Proofs.Ytfmgaakbfphpbaa

