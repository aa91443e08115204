/- What a rig's methods come to. -/
import Derived.Test.YtompbjdhdjafgaaRigOp
namespace Go.Proofs.Ytompbjdhdjafgaa
open Go.RowKit Go.Shelf
set_option linter.unusedVariables false
attribute [-simp] Try.isAgg38 Try.zeroValue38
attribute [-go_sem] loadVar storeVar
attribute [local go_sem] zero_blk build_blk loadVar_open storeVar_open

section
variable {rb p0 p1 : Nat} {S : RS} {w : World} {f : Nat → Prop}

theorem RigR.beside {w' : World} (h : RigR rb p0 p1 S w f) (hb : Below w.heap.size w w') : RigR rb p0 p1 S w' f := (RigR.isRes rb p0 p1 S).below h hb

set_option maxRecDepth 100000 in
set_option maxHeartbeats 1000000 in
/-- **Len**. -/
theorem RigR.len (h : RigR rb p0 p1 S w f) (dev : Int) :
    Calls Try.prog 24 #[.pointer (some ⟨rb, 0, none⟩), .int .i64 dev] w fun e w' => e = .returned (.int .i64 (S.len dev : Int)) ∧ Below w.heap.size w w' := by
  have H1 := Lib.hid (h.disk dev)
  have H := Lib.hid h
  clear h
  go_enter Try.func24, Try.ntmps24
  go_wp2_with fail
  refine H1.out.mono ?_
  rintro e x1 ⟨rfl, hb⟩
  have HB := Lib.hid hb
  have H2 := Lib.hid ((H.out.beside hb).lenOf dev)
  clear hb
  go_wp2_with fail
  refine H2.out.mono ?_
  rintro e w' ⟨rfl, rfl⟩
  go_wp2_with fail
  go_ret
  exact ⟨rfl, HB.out⟩

set_option maxRecDepth 100000 in
set_option maxHeartbeats 1000000 in
/-- **Done**. -/
theorem RigR.done (h : RigR rb p0 p1 S w f) :
    Calls Try.prog 23 #[.pointer (some ⟨rb, 0, none⟩)] w fun e w' => e = .returned (.int .i64 S.done) ∧ w' = w := by
  have c4 : w.cell? ⟨rb, 4, none⟩ = some (.int .i64 S.done) := h.cell 4
  clear h
  go_enter Try.func23, Try.ntmps23
  go_wp2
  go_ret
  exact ⟨rfl, rfl⟩

set_option maxRecDepth 100000 in
set_option maxHeartbeats 1000000 in
/-- **Down**. -/
theorem RigR.isDown (h : RigR rb p0 p1 S w f) :
    Calls Try.prog 22 #[.pointer (some ⟨rb, 0, none⟩)] w fun e w' => e = .returned (.bool S.down) ∧ w' = w := by
  have c3 : w.cell? ⟨rb, 3, none⟩ = some (.bool S.down) := h.cell 3
  clear h
  go_enter Try.func22, Try.ntmps22
  go_wp2
  go_ret
  exact ⟨rfl, rfl⟩

set_option maxRecDepth 100000 in
set_option maxHeartbeats 1000000 in
/-- **Arm**. -/
theorem RigR.arm (h : RigR rb p0 p1 S w f) (n : Int) :
    Calls Try.prog 21 #[.pointer (some ⟨rb, 0, none⟩), .int .i64 n] w fun e w' => e = .returned (.tuple #[]) ∧ ∃ f', RigR rb p0 p1 { S with fuse := n } w' f' ∧ Turn f f' w w' := by
  have c2 : w.cell? ⟨rb, 2, none⟩ = some (.int .i64 S.fuse) := h.cell 2
  have r2 := h.frozen 2
  have H := Lib.hid h
  clear h
  go_enter Try.func21, Try.ntmps21
  go_wp2
  go_end0
  obtain ⟨g1, g2⟩ := H.out.set (S.disks_isRes p0 p1) 2 (.int .i64 n)
  exact ⟨rfl, f, g1, g2⟩

set_option maxRecDepth 100000 in
set_option maxHeartbeats 1000000 in
/-- **Flush**. -/
theorem RigR.flush (h : RigR rb p0 p1 S w f) (hS : S.Fit) (dev : Int) :
    Calls Try.prog 17 #[.pointer (some ⟨rb, 0, none⟩), .int .i64 dev] w fun e w' => e = .returned (.int .i64 (S.flushE dev)) ∧ ∃ f', RigR rb p0 p1 (S.flush dev) w' f' ∧ Turn f f' w w' := by
  have H1 := Lib.hid (h.disk dev)
  have H := Lib.hid h
  have HS := Lib.hid hS
  clear h hS
  by_cases hd : dev = 0 ∨ dev = 1
  · obtain ⟨p, hp⟩ : ∃ p, dk p0 p1 dev = some ⟨p, 0, none⟩ := by rcases dk_cases p0 p1 dev with ⟨_, e⟩ | ⟨_, e⟩ | ⟨e0, e1, _⟩; exact ⟨_, e⟩; exact ⟨_, e⟩; exact absurd hd (by simp [e0, e1])
    have HP := Lib.hid hp
    rw [hp] at H1
    have HD := Lib.hid hd
    by_cases hok : S.ok = true
    · have hE : Hid (S.flushE dev = 0 ∧ S.flush dev = S.after.fl dev) := by refine (?_ : _ ∧ _); unfold RS.flushE RS.flush; rw [if_pos hd, if_pos hok, if_pos hd, if_pos hok]; exact ⟨rfl, rfl⟩
      have HK := Lib.hid hok
      clear hp hd hok
      go_enter Try.func17, Try.ntmps17
      go_wp2_with fail
      go_at_call 28
      refine H1.out.mono ?_
      rintro e x1 ⟨rfl, hb⟩
      have HB := Lib.hid hb
      have H2 := Lib.hid (passes_at rb p0 p1 S f x1 (H.out.beside hb) HS.out)
      rw [HK.out] at H2
      clear hb
      go_wp2_with fail
      go_at_call 30
      refine H2.out.mono ?_
      rintro e x2 ⟨rfl, f2, g1, g2⟩
      have H3 := Lib.hid (g1.flOf HD.out)
      rw [HP.out] at H3
      have HT := Lib.hid g2
      clear g1 g2
      go_wp2_with fail
      go_at_call 37
      refine H3.out.mono ?_
      rintro e x3 ⟨rfl, f3, g1, g2⟩
      have HR := Lib.hid g1
      have HU := Lib.hid g2
      clear g1 g2
      go_wp2_with fail
      go_ret
      rw [hE.out.1, hE.out.2]
      exact ⟨rfl, f3, HR.out, (Turn.of_below HB.out).trans (HT.out.trans HU.out)⟩
    · have hok : S.ok = false := by simpa using hok
      have hE : Hid (S.flushE dev = 14 ∧ S.flush dev = S.after) := by refine (?_ : _ ∧ _); unfold RS.flushE RS.flush; rw [if_pos hd, if_neg (by simp [hok]), if_pos hd, if_neg (by simp [hok])]; exact ⟨rfl, rfl⟩
      have HK := Lib.hid hok
      clear hp hd hok
      go_enter Try.func17, Try.ntmps17
      go_wp2_with fail
      go_at_call 28
      refine H1.out.mono ?_
      rintro e x1 ⟨rfl, hb⟩
      have HB := Lib.hid hb
      have H2 := Lib.hid (passes_at rb p0 p1 S f x1 (H.out.beside hb) HS.out)
      rw [HK.out] at H2
      clear hb
      go_wp2_with fail
      go_at_call 30
      refine H2.out.mono ?_
      rintro e x2 ⟨rfl, f2, g1, g2⟩
      have HR := Lib.hid g1
      have HT := Lib.hid g2
      clear g1 g2
      go_wp2_with fail
      go_ret
      rw [hE.out.1, hE.out.2]
      exact ⟨rfl, f2, HR.out, (Turn.of_below HB.out).trans HT.out⟩
  · have hp : dk p0 p1 dev = none := by unfold dk; rw [if_neg (fun h => hd (.inl h)), if_neg (fun h => hd (.inr h))]
    rw [hp] at H1
    have hE : Hid (S.flushE dev = 1 ∧ S.flush dev = S) := by refine (?_ : _ ∧ _); unfold RS.flushE RS.flush; rw [if_neg hd, if_neg hd]; exact ⟨rfl, rfl⟩
    clear hp hd
    go_enter Try.func17, Try.ntmps17
    go_wp2_with fail
    go_at_call 28
    refine H1.out.mono ?_
    rintro e x1 ⟨rfl, hb⟩
    have HB := Lib.hid hb
    clear hb
    go_wp2_with fail
    go_ret
    rw [hE.out.1, hE.out.2]
    exact ⟨rfl, f, H.out.beside HB.out, Turn.of_below HB.out⟩

set_option maxRecDepth 100000 in
set_option maxHeartbeats 1000000 in
/-- **Write**. -/
theorem RigR.write (h : RigR rb p0 p1 S w f) (hS : S.Fit) (hm : S.Few 255) (dev i : Int) {b : List Value} (hb : IsBlk b) :
    Calls Try.prog 12 #[.pointer (some ⟨rb, 0, none⟩), .int .i64 dev, .int .i64 i, .agg b.toArray] w fun e w' => e = .returned (.int .i64 (S.writeE dev i)) ∧ ∃ f', RigR rb p0 p1 (S.write dev i b) w' f' ∧ Turn f f' w w' := by
  obtain ⟨W, hW⟩ : ∃ W, w.alloc (.cells b.toArray 38) = W := ⟨_, rfl⟩
  have hB : Below w.heap.size w W := by rw [← hW]; exact (Below.refl _ w).alloc (Nat.le_refl _) _
  have K : Hid (W.heap[w.heap.size]? = some (.cells b.toArray 38 (0, 0))) := by rw [← hW]; exact heap_alloc_new w _
  have hlt : ∀ k, f k → k < w.heap.size := (RigR.isRes rb p0 p1 S).lt h
  have H := Lib.hid (h.beside hB)
  have H1 := Lib.hid (H.out.disk dev)
  have HB0 := Lib.hid hB
  have HS := Lib.hid hS
  have HM := Lib.hid hm
  have HBL := Lib.hid hb
  have HLT := Lib.hid hlt
  clear h hS hm hb hB hlt
  obtain ⟨p, hp⟩ : ∃ p, dk p0 p1 dev = p := ⟨_, rfl⟩
  have HP := Lib.hid hp
  rw [hp] at H1
  clear hp
  have H2 : Hid (∀ x : World, Below W.heap.size W x → Calls Try.prog 29 #[.pointer p, .int .i64 i] x fun e w' => e = .returned (.bool (S.has dev i)) ∧ w' = x) := fun x hx => by
    have := (H.out.beside hx).hasOf dev i
    rw [HP.out] at this
    exact this
  by_cases hh : S.has dev i = true
  · have HH := Lib.hid hh
    rw [hh] at H2
    by_cases hok : S.ok = true
    · have hE : Hid (S.writeE dev i = 0 ∧ S.write dev i b = S.after.put dev i.toNat b) := by refine (?_ : _ ∧ _); unfold RS.writeE RS.write; rw [if_pos hh, if_pos hok, if_pos hh, if_pos hok]; exact ⟨rfl, rfl⟩
      have HK := Lib.hid hok
      clear hh hok
      go_enter Try.func12, Try.ntmps12
      go_wp2_with (with_reducible (rw [hW]; clear hW))
      go_at_call 28
      refine H1.out.mono ?_
      rintro e x1 ⟨rfl, hb⟩
      have HB := Lib.hid hb
      clear hb
      go_wp2_with fail
      go_at_call 29
      refine (H2.out x1 HB.out).mono ?_
      rintro e w' ⟨rfl, hx⟩
      obtain rfl := hx.symm
      clear hx
      have H3 := Lib.hid (passes_at rb p0 p1 S f x1 (H.out.beside HB.out) HS.out)
      rw [HK.out] at H3
      go_wp2_with fail
      go_at_call 30
      refine H3.out.mono ?_
      rintro e x2 ⟨rfl, f2, g1, g2⟩
      have L2 : (loadVar 38 ⟨w.heap.size, 0, none⟩).run Try.prog x2 = .ok (.agg b.toArray) x2 := by
        have hz := (Array.getElem?_eq_some_iff.1 K.out).1
        refine load_at ?_ HBL.out
        rw [g2.out _ (Nat.lt_of_lt_of_le hz HB.out.size) (fun hf => by have := HLT.out _ hf; omega)]
        exact (HB.out.block _ hz).trans K.out
      have H4 : Hid (Calls Try.prog 31 #[.pointer p, .int .i64 i, .agg b.toArray] x2 fun e w' => e = .returned (.int .i64 0) ∧ ∃ f', RigR rb p0 p1 (S.after.put dev i.toNat b) w' f' ∧ Turn f2 f' x2 w') := by
        have := g1.putOf (dev := dev) (i := i) (b := b) (by unfold RS.has; rw [S.after_len]; exact HH.out) HBL.out (RS.after_few HM.out)
        rw [HP.out] at this
        exact this
      have HT := Lib.hid g2
      clear g1 g2
      go_wp2_with fail
      go_at_call 31
      refine H4.out.mono ?_
      rintro e x3 ⟨rfl, f3, g1, g2⟩
      have HR := Lib.hid g1
      have HU := Lib.hid g2
      clear g1 g2 L2
      go_wp2_with fail
      go_ret
      rw [hE.out.1, hE.out.2]
      exact ⟨rfl, f3, HR.out, (Turn.of_below (HB0.out.trans (HB.out.mono HB0.out.size))).trans (HT.out.trans HU.out)⟩
    · have hok : S.ok = false := by simpa using hok
      have hE : Hid (S.writeE dev i = 14 ∧ S.write dev i b = S.after) := by refine (?_ : _ ∧ _); unfold RS.writeE RS.write; rw [if_pos hh, if_neg (by simp [hok]), if_pos hh, if_neg (by simp [hok])]; exact ⟨rfl, rfl⟩
      have HK := Lib.hid hok
      clear hh hok
      go_enter Try.func12, Try.ntmps12
      go_wp2_with (with_reducible (rw [hW]; clear hW))
      go_at_call 28
      refine H1.out.mono ?_
      rintro e x1 ⟨rfl, hb⟩
      have HB := Lib.hid hb
      clear hb
      go_wp2_with fail
      go_at_call 29
      refine (H2.out x1 HB.out).mono ?_
      rintro e w' ⟨rfl, hx⟩
      obtain rfl := hx.symm
      clear hx
      have H3 := Lib.hid (passes_at rb p0 p1 S f x1 (H.out.beside HB.out) HS.out)
      rw [HK.out] at H3
      go_wp2_with fail
      go_at_call 30
      refine H3.out.mono ?_
      rintro e x2 ⟨rfl, f2, g1, g2⟩
      have HR := Lib.hid g1
      have HT := Lib.hid g2
      clear g1 g2
      go_wp2_with fail
      go_ret
      rw [hE.out.1, hE.out.2]
      exact ⟨rfl, f2, HR.out, (Turn.of_below (HB0.out.trans (HB.out.mono HB0.out.size))).trans HT.out⟩
  · have hh : S.has dev i = false := by simpa using hh
    rw [hh] at H2
    have hE : Hid (S.writeE dev i = 1 ∧ S.write dev i b = S) := by refine (?_ : _ ∧ _); unfold RS.writeE RS.write; rw [if_neg (by simp [hh]), if_neg (by simp [hh])]; exact ⟨rfl, rfl⟩
    clear hh
    go_enter Try.func12, Try.ntmps12
    go_wp2_with (with_reducible (rw [hW]; clear hW))
    go_at_call 28
    refine H1.out.mono ?_
    rintro e x1 ⟨rfl, hb⟩
    have HB := Lib.hid hb
    clear hb
    go_wp2_with fail
    go_at_call 29
    refine (H2.out x1 HB.out).mono ?_
    rintro e w' ⟨rfl, hx⟩
    obtain rfl := hx.symm
    clear hx
    go_wp2_with fail
    go_ret
    rw [hE.out.1, hE.out.2]
    exact ⟨rfl, f, H.out.beside HB.out, Turn.of_below (HB0.out.trans (HB.out.mono HB0.out.size))⟩
end
end Go.Proofs.Ytompbjdhdjafgaa
