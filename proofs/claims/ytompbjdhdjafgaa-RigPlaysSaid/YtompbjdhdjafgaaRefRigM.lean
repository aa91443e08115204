/- The document's own rig: its methods. -/
import Derived.Test.YtompbjdhdjafgaaRefRig
import Derived.Test.YtompbjdhdjafgaaRigRd
namespace Go.Proofs.Ytompbjdhdjafgaa
open Go.RowKit
set_option linter.unusedVariables false
attribute [-simp] Try.isAgg38 Try.zeroValue38
attribute [-go_sem] loadVar storeVar
attribute [local go_sem] zero_blk build_blk loadVar_open storeVar_open

section
variable {rq q0 q1 : Nat} {S : RS} {w : World} {f : Nat → Prop}

theorem RigQ.rq_lt (h : RigQ rq q0 q1 S w f) : rq < w.heap.size := by
  obtain ⟨f1, f2, ⟨h1, _⟩, _⟩ := h
  exact (Array.getElem?_eq_some_iff.1 h1).1

set_option maxRecDepth 100000 in
set_option maxHeartbeats 1000000 in
/-- **Flush**. -/
theorem RigQ.flush (h : RigQ rq q0 q1 S w f) (hS : S.Fit) (dev : Int) :
    Calls Try.prog 18 #[.pointer (some ⟨rq, 0, none⟩), .int .i64 dev] w fun e w' => e = .returned (.int .i64 (S.flushE dev)) ∧ ∃ f', RigQ rq q0 q1 (S.flush dev) w' f' ∧ Turn f f' w w' := by
  have H1 := Lib.hid (h.through hS)
  have H := Lib.hid h
  clear h hS
  by_cases hd : dev = 0 ∨ dev = 1
  · have q1' : decide (dev < 0) = false := by simp; omega
    have q2' : ¬ 1 < dev := by omega
    have q3' : decide (1 < dev) = false := by simp; omega
    by_cases hok : S.ok = true
    · have hE : Hid (S.flushE dev = 0 ∧ S.flush dev = S.after.fl dev) := by refine (?_ : _ ∧ _); unfold RS.flushE RS.flush; rw [if_pos hd, if_pos hok, if_pos hd, if_pos hok]; exact ⟨rfl, rfl⟩
      rw [hok] at H1
      have H2 : Hid (∀ (x : World) (f2 : Nat → Prop), RigQ rq q0 q1 S.after x f2 → Calls Try.prog 38 #[.pointer (some ⟨dsk q0 q1 dev.toNat, 0, none⟩)] x fun e w' => e = .returned (.tuple #[]) ∧ ∃ f', RigQ rq q0 q1 (S.after.fl dev) w' f' ∧ Turn f2 f' x w') := fun x f2 hx => hx.flOf hd
      clear hok
      rcases hd with rfl | rfl
      all_goals
        go_enter Try.func18, Try.ntmps18
        go_wp2_with fail
        go_at_call 33
        refine H1.out.mono ?_
        rintro e x2 ⟨rfl, f2, g1, g2⟩
        have c0 : x2.cell? ⟨rq, 0, none⟩ = some (.pointer (some ⟨q0, 0, none⟩)) := g1.cell 0
        have c1 : x2.cell? ⟨rq, 1, none⟩ = some (.pointer (some ⟨q1, 0, none⟩)) := g1.cell 1
        have H3 := Lib.hid (H2.out x2 f2 g1)
        have HT := Lib.hid g2
        clear g1 g2
        go_wp2_with fail
        go_at_call 38
        refine H3.out.mono ?_
        rintro e x3 ⟨rfl, f3, g1, g2⟩
        have HR := Lib.hid g1
        have HU := Lib.hid g2
        clear g1 g2 c0 c1
        go_wp2_with fail
        go_ret
        rw [hE.out.1, hE.out.2]
        exact ⟨rfl, f3, HR.out, HT.out.trans HU.out⟩
    · have hok : S.ok = false := by simpa using hok
      have hE : Hid (S.flushE dev = 14 ∧ S.flush dev = S.after) := by refine (?_ : _ ∧ _); unfold RS.flushE RS.flush; rw [if_pos hd, if_neg (by simp [hok]), if_pos hd, if_neg (by simp [hok])]; exact ⟨rfl, rfl⟩
      rw [hok] at H1
      clear hd hok
      go_enter Try.func18, Try.ntmps18
      go_wp2_with fail
      go_at_call 33
      refine H1.out.mono ?_
      rintro e x2 ⟨rfl, f2, g1, g2⟩
      have HR := Lib.hid g1
      have HT := Lib.hid g2
      clear g1 g2
      go_wp2_with fail
      go_ret
      rw [hE.out.1, hE.out.2]
      exact ⟨rfl, f2, HR.out, HT.out⟩
  · have hE : Hid (S.flushE dev = 1 ∧ S.flush dev = S) := by refine (?_ : _ ∧ _); unfold RS.flushE RS.flush; rw [if_neg hd, if_neg hd]; exact ⟨rfl, rfl⟩
    have hq : decide (dev < 0) = true ∨ (decide (dev < 0) = false ∧ decide (1 < dev) = true) := by
      by_cases h0 : dev < 0
      · exact .inl (by simpa using h0)
      · exact .inr ⟨by simpa using h0, by simp; omega⟩
    clear hd
    rcases hq with z1 | ⟨z1, z2⟩
    all_goals
      go_enter Try.func18, Try.ntmps18
      go_wp2_with fail
      go_ret
      rw [hE.out.1, hE.out.2]
      exact ⟨rfl, f, H.out, Turn.refl _ _⟩

set_option maxRecDepth 100000 in
set_option maxHeartbeats 2000000 in
/-- **Write**. -/
theorem RigQ.write (h : RigQ rq q0 q1 S w f) (hS : S.Fit) (hm : S.Few 255) (dev i : Int) {b : List Value} (hb : IsBlk b) :
    Calls Try.prog 14 #[.pointer (some ⟨rq, 0, none⟩), .int .i64 dev, .int .i64 i, .agg b.toArray] w fun e w' => e = .returned (.int .i64 (S.writeE dev i)) ∧ ∃ f', RigQ rq q0 q1 (S.write dev i b) w' f' ∧ Turn f f' w w' := by
  obtain ⟨W, hW⟩ : ∃ W, w.alloc (.cells b.toArray 38) = W := ⟨_, rfl⟩
  have hB : Below w.heap.size w W := by rw [← hW]; exact (Below.refl _ w).alloc (Nat.le_refl _) _
  have K : Hid (W.heap[w.heap.size]? = some (.cells b.toArray 38 (0, 0))) := by rw [← hW]; exact heap_alloc_new w _
  have HLT : Hid (∀ k, f k → k < w.heap.size) := (RigQ.isRes rq q0 q1 S).lt h
  have H := Lib.hid (h.beside hB)
  have H1 := Lib.hid (H.out.has dev i)
  have H3 := Lib.hid (H.out.through hS)
  have HB0 := Lib.hid hB
  have HM := Lib.hid hm
  have HBL := Lib.hid hb
  clear h hS hm hb hB
  by_cases hh : S.has dev i = true
  · have HH := Lib.hid hh
    rw [hh] at H1
    by_cases hok : S.ok = true
    · have hE : Hid (S.writeE dev i = 0 ∧ S.write dev i b = S.after.put dev i.toNat b) := by refine (?_ : _ ∧ _); unfold RS.writeE RS.write; rw [if_pos hh, if_pos hok, if_pos hh, if_pos hok]; exact ⟨rfl, rfl⟩
      rw [hok] at H3
      have H4 : Hid (∀ (x : World) (f2 : Nat → Prop), RigQ rq q0 q1 S.after x f2 → Calls Try.prog 34 #[.pointer (some ⟨dsk q0 q1 dev.toNat, 0, none⟩), .int .i64 i, .agg b.toArray] x fun e w' => e = .returned (.tuple #[]) ∧ ∃ f', RigQ rq q0 q1 (S.after.put dev i.toNat b) w' f' ∧ Turn f2 f' x w') :=
        fun x f2 hx => hx.putOf (by unfold RS.has; rw [S.after_len]; exact HH.out) HBL.out (RS.after_few HM.out)
      have hmx : Try.prog.follows .mixedOrders = true := by kernel_rfl
      have hdv := (RS.has_lt hh).1
      clear hh hok
      rcases hdv with rfl | rfl
      all_goals
        go_enter Try.func14, Try.ntmps14
        go_wp2_with (with_reducible (rw [hW]; clear hW))
        go_at_call 32
        refine H1.out.mono ?_
        rintro e w' ⟨rfl, hx⟩
        obtain rfl := hx.symm
        clear hx
        go_wp2_with fail
        go_at_call 33
        refine H3.out.mono ?_
        rintro e x2 ⟨rfl, f2, g1, g2⟩
        have g1' : RigQ rq q0 q1 S.after x2.drew f2 := (RigQ.isRes _ _ _ _).out g1 (fun _ _ => rfl)
        have c0 : x2.drew.cell? ⟨rq, 0, none⟩ = some (.pointer (some ⟨q0, 0, none⟩)) := g1'.cell 0
        have c1 : x2.drew.cell? ⟨rq, 1, none⟩ = some (.pointer (some ⟨q1, 0, none⟩)) := g1'.cell 1
        have L2 : (loadVar 38 ⟨w.heap.size, 0, none⟩).run Try.prog x2.drew = .ok (.agg b.toArray) x2.drew := by
          have hz := (Array.getElem?_eq_some_iff.1 K.out).1
          refine load_at ?_ HBL.out
          show x2.heap[w.heap.size]? = _
          rw [g2.out _ hz (fun hf => by have := HLT.out _ hf; omega)]
          exact K.out
        have H5 := Lib.hid (H4.out x2.drew f2 g1')
        have HT := Lib.hid g2
        clear g1 g1' g2
        go_wp2_with fail
        refine region_plan (fun x => x = x2.drew) 8 (.takes [0, 1, 2, 3, 4, 5, 6, 7] .leaf) hmx (by kernel_rfl) (by intro c x v a w h; cases x <;> exact h) rfl ?_
        repeat (rw [wpPlan_takes_cons]; simp only [nth_zero, nth_succ]; go_big_quiet_step (fail); refine wpQuiet_nil ?_)
        rw [wpPlan_takes_nil, wpPlan_leaf]
        simp only [List.drop_succ_cons, List.drop_zero]
        go_wp2_with fail
        go_at_call 34
        refine H5.out.mono ?_
        rintro e x3 ⟨rfl, f3, g1, g2⟩
        have HR := Lib.hid g1
        have HU := Lib.hid g2
        clear g1 g2 L2 c0 c1
        go_wp2_with fail
        go_ret
        rw [hE.out.1, hE.out.2]
        have hdr : Turn f2 f2 x2 x2.drew := Turn.of_below (Below.refl _ x2).drew
        exact ⟨rfl, f3, HR.out, (Turn.of_below HB0.out).trans (HT.out.trans (hdr.trans HU.out))⟩
    · have hok : S.ok = false := by simpa using hok
      have hE : Hid (S.writeE dev i = 14 ∧ S.write dev i b = S.after) := by refine (?_ : _ ∧ _); unfold RS.writeE RS.write; rw [if_pos hh, if_neg (by simp [hok]), if_pos hh, if_neg (by simp [hok])]; exact ⟨rfl, rfl⟩
      rw [hok] at H3
      clear hh hok
      go_enter Try.func14, Try.ntmps14
      go_wp2_with (with_reducible (rw [hW]; clear hW))
      go_at_call 32
      refine H1.out.mono ?_
      rintro e w' ⟨rfl, hx⟩
      obtain rfl := hx.symm
      clear hx
      go_wp2_with fail
      go_at_call 33
      refine H3.out.mono ?_
      rintro e x2 ⟨rfl, f2, g1, g2⟩
      have HR := Lib.hid g1
      have HT := Lib.hid g2
      clear g1 g2
      go_wp2_with fail
      go_ret
      rw [hE.out.1, hE.out.2]
      exact ⟨rfl, f2, HR.out, (Turn.of_below HB0.out).trans HT.out⟩
  · have hh : S.has dev i = false := by simpa using hh
    rw [hh] at H1
    have hE : Hid (S.writeE dev i = 1 ∧ S.write dev i b = S) := by refine (?_ : _ ∧ _); unfold RS.writeE RS.write; rw [if_neg (by simp [hh]), if_neg (by simp [hh])]; exact ⟨rfl, rfl⟩
    clear hh
    go_enter Try.func14, Try.ntmps14
    go_wp2_with (with_reducible (rw [hW]; clear hW))
    go_at_call 32
    refine H1.out.mono ?_
    rintro e w' ⟨rfl, hx⟩
    obtain rfl := hx.symm
    clear hx
    go_wp2_with fail
    go_ret
    rw [hE.out.1, hE.out.2]
    exact ⟨rfl, f, H.out, Turn.of_below HB0.out⟩

set_option maxRecDepth 100000 in
set_option maxHeartbeats 2000000 in
/-- **Read**. -/
theorem RigQ.read (h : RigQ rq q0 q1 S w f) (dev i : Int) :
    Calls Try.prog 16 #[.pointer (some ⟨rq, 0, none⟩), .int .i64 dev, .int .i64 i] w fun e w' => e = .returned (.tuple #[.agg (S.read dev i).toArray, .int .i64 (S.readE dev i)]) ∧ Below w.heap.size w w' := by
  obtain ⟨W, hW⟩ : ∃ W, w.alloc (.cells zarr 38) = W := ⟨_, rfl⟩
  have hB : Below w.heap.size w W := by rw [← hW]; exact (Below.refl _ w).alloc (Nat.le_refl _) _
  have K : Hid (W.heap[w.heap.size]? = some (.cells zarr 38 (0, 0)) ∧ w.heap.size < W.heap.size) := by rw [← hW]; exact ⟨heap_alloc_new w _, by simp⟩
  have H := Lib.hid (h.beside hB)
  have H1 := Lib.hid (H.out.has dev i)
  have HB0 := Lib.hid hB
  clear h hB
  have SZ : Hid (∀ x u, Below W.heap.size W x → IsBlk u → ∃ x', (storeVar 38 ⟨w.heap.size, 0, none⟩ (.agg u.toArray)).run Try.prog x = .ok () x' ∧ (loadVar 38 ⟨w.heap.size, 0, none⟩).run Try.prog x' = .ok (.agg u.toArray) x' ∧ Below w.heap.size w x') := fun x u hx hu =>
    own_cell ((hx.block _ K.out.2).trans K.out.1) zarr_size (HB0.out.trans (hx.mono HB0.out.size)) hu
  by_cases hh : S.has dev i = true
  · have HH := Lib.hid hh
    rw [hh] at H1
    cases hdw : S.down with
    | true =>
      have hE : Hid (S.readE dev i = 14 ∧ S.read dev i = fillB 0) := by refine (?_ : _ ∧ _); unfold RS.readE RS.read; rw [if_pos hh, if_pos hdw, if_neg (by simp [hdw])]; exact ⟨rfl, rfl⟩
      have c3 : W.cell? ⟨rq, 3, none⟩ = some (.bool true) := by rw [← hdw]; exact H.out.cell 3
      obtain ⟨x2, st, ld, hb2⟩ := SZ.out W (fillB 0) (Below.refl _ _) (isBlk_fill 0)
      have st' : (storeVar 38 ⟨w.heap.size, 0, none⟩ (.agg zarr)).run Try.prog W = .ok () x2 := st
      have HB2 := Lib.hid hb2
      clear hh hdw st hb2
      go_enter Try.func16, Try.ntmps16
      go_wp2_with (with_reducible (rw [hW]; clear hW))
      go_at_call 32
      refine H1.out.mono ?_
      rintro e w' ⟨rfl, hx⟩
      obtain rfl := hx.symm
      clear hx
      go_wp2_with fail
      rw [hE.out.1, hE.out.2]
      exact bodyPost_ret (results_cell2 rfl rfl ld) rfl ⟨rfl, HB2.out⟩
    | false =>
      have hE : Hid (S.readE dev i = 0 ∧ S.read dev i = S.look dev i.toNat) := by refine (?_ : _ ∧ _); unfold RS.readE RS.read; rw [if_pos hh, if_neg (by simp [hdw]), if_pos ⟨hh, hdw⟩]; exact ⟨rfl, rfl⟩
      have c3 : W.cell? ⟨rq, 3, none⟩ = some (.bool false) := by rw [← hdw]; exact H.out.cell 3
      have c0 : W.cell? ⟨rq, 0, none⟩ = some (.pointer (some ⟨q0, 0, none⟩)) := H.out.cell 0
      have c1 : W.cell? ⟨rq, 1, none⟩ = some (.pointer (some ⟨q1, 0, none⟩)) := H.out.cell 1
      obtain ⟨u, hu⟩ : ∃ u, S.look dev i.toNat = u := ⟨_, rfl⟩
      have HU : Hid (IsBlk u) := by rw [← hu]; exact H.out.okLook HH.out
      have H3 : Hid (Calls Try.prog 36 #[.pointer (some ⟨dsk q0 q1 dev.toNat, 0, none⟩), .int .i64 i] W fun e w' => e = .returned (.agg u.toArray) ∧ Below W.heap.size W w') := by
        have := H.out.readOf HH.out
        rw [hu] at this
        exact this
      rw [hu] at hE
      have hdv := (RS.has_lt hh).1
      clear hh hdw hu
      rcases hdv with rfl | rfl
      all_goals
        go_enter Try.func16, Try.ntmps16
        go_wp2_with (with_reducible (rw [hW]; clear hW))
        go_at_call 32
        refine H1.out.mono ?_
        rintro e w' ⟨rfl, hx⟩
        obtain rfl := hx.symm
        clear hx
        go_wp2_with fail
        go_at_call 36
        refine H3.out.mono ?_
        rintro e x2 ⟨rfl, hb⟩
        obtain ⟨x3, st, ld, hb2⟩ := SZ.out x2 u hb HU.out
        have HB2 := Lib.hid hb2
        clear hb hb2 c3 c0 c1
        go_wp2_with fail
        rw [hE.out.1, hE.out.2]
        exact bodyPost_ret (results_cell2 rfl rfl ld) rfl ⟨rfl, HB2.out⟩
  · have hh : S.has dev i = false := by simpa using hh
    rw [hh] at H1
    have hE : Hid (S.readE dev i = 1 ∧ S.read dev i = fillB 0) := by refine (?_ : _ ∧ _); unfold RS.readE RS.read; rw [if_neg (by simp [hh]), if_neg (by simp [hh])]; exact ⟨rfl, rfl⟩
    obtain ⟨x2, st, ld, hb2⟩ := SZ.out W (fillB 0) (Below.refl _ _) (isBlk_fill 0)
    have st' : (storeVar 38 ⟨w.heap.size, 0, none⟩ (.agg zarr)).run Try.prog W = .ok () x2 := st
    have HB2 := Lib.hid hb2
    clear hh st hb2
    go_enter Try.func16, Try.ntmps16
    go_wp2_with (with_reducible (rw [hW]; clear hW))
    go_at_call 32
    refine H1.out.mono ?_
    rintro e w' ⟨rfl, hx⟩
    obtain rfl := hx.symm
    clear hx
    go_wp2_with fail
    rw [hE.out.1, hE.out.2]
    exact bodyPost_ret (results_cell2 rfl rfl ld) rfl ⟨rfl, HB2.out⟩
end
end Go.Proofs.Ytompbjdhdjafgaa
