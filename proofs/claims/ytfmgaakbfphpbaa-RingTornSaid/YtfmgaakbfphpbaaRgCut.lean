/- What comes in for RingTorn; images held against each other; rings behind a cut Append. -/
import Derived.Test.YtfmgaakbfphpbaaG5
import Derived.Laws.StructEq
namespace Go.Proofs.Ytfmgaakbfphpbaa
open Go.ChangeShapes Go.WideShapes Go.ChangeAt Go.RowKit
set_option linter.unusedVariables false

set_option maxRecDepth 100000 in
theorem under_cut : ∃ fs, Try.prog.underlying 76 = some (.struct fs) ∧ (fs[0]?).map (fun f => (f.offset, f.type)) = some (0, 74) ∧ (fs[1]?).map (fun f => (f.offset, f.type)) = some (1, 34) ∧ (fs[2]?).map (fun f => (f.offset, f.type)) = some (2, 5) ∧ (fs[3]?).map (fun f => (f.offset, f.type)) = some (3, 35) ∧ (fs[4]?).map (fun f => (f.offset, f.type)) = some (4, 34) :=
  ⟨_, Try.underlying76, rfl, rfl, rfl, rfl, rfl⟩
set_option maxRecDepth 100000 in
theorem Arg.cut {W : World} {v : Value} (h : Arg W 76 v) : ∃ va L vl l n p0 cap bs vt t, v = .agg #[va, vl, .int .u8 n, .slice p0 bs.length cap, vt] ∧ PrsS W va L ∧ Prs W vl l ∧ (0 ≤ n ∧ n < 256) ∧ Sl .u8 W (.slice p0 bs.length cap) bs ∧ IsBytes bs ∧ Prs W vt t := by
  obtain ⟨fs, hu, f0, f1, f2, f3, f4⟩ := under_cut
  obtain ⟨cs, rfl, _, hc⟩ := h.agg (.inl ⟨fs, hu⟩)
  obtain ⟨hl, hf⟩ := hc.struct hu
  rw [show Try.prog.cellsOf 76 = 5 from by kernel_rfl] at hl
  have field : ∀ (j o : Nat) t, (fs[j]?).map (fun f => (f.offset, f.type)) = some (o, t) → Cells W t ((cs.drop o).take (Try.prog.cellsOf t)) := by
    intro j o t hj
    obtain ⟨f, hf1, hf2⟩ := Option.map_eq_some_iff.1 hj
    cases hf2
    exact hf j f hf1
  obtain ⟨x0, x1, x2, x3, x4, rfl⟩ : ∃ x0 x1 x2 x3 x4, cs = [x0, x1, x2, x3, x4] := by
    match cs, hl with
    | [x0, x1, x2, x3, x4], _ => exact ⟨x0, x1, x2, x3, x4, rfl⟩
  have g0 := field 0 0 _ f0
  have g1 := field 1 1 _ f1
  have g2 := field 2 2 _ f2
  have g3 := field 3 3 _ f3
  have g4 := field 4 4 _ f4
  rw [show Try.prog.cellsOf 74 = 1 from by kernel_rfl] at g0
  rw [show Try.prog.cellsOf 34 = 1 from by kernel_rfl] at g1 g4
  rw [show Try.prog.cellsOf 5 = 1 from by kernel_rfl] at g2
  rw [show Try.prog.cellsOf 35 = 1 from by kernel_rfl] at g3
  obtain ⟨va, L, e0, h0⟩ := g0.prsS
  obtain ⟨vl, l, e1, h1⟩ := g1.prs
  obtain ⟨n, e2, w2⟩ := g2.int Try.underlying5
  obtain ⟨a, len, cap, xs, e3, hx, hm, hs, hw⟩ := g3.bytes Try.underlying35 Try.underlying5 (by kernel_rfl)
  obtain ⟨vt, t, e4, h4⟩ := g4.prs
  simp at e0 e1 e2 e3 e4
  subst e0 e1 e2 e3 e4 hx
  have b2 := (wf_iff .u8 n).1 w2
  simp [IntKind.min, IntKind.max, IntKind.signed, IntKind.bits] at b2
  exact ⟨_, L, _, l, n, a, cap, xs, _, t, rfl, h0, h1, ⟨b2.1, by omega⟩, hs, hw, h4⟩
/-- A slice of pairs is a slice. -/
theorem Prs.sl {W : World} {v : Value} {l : List (Int × Int)} (h : Prs W v l) : ∃ a c, v = .slice a l.length c := by
  obtain ⟨a, c, rfl, _⟩ := h
  exact ⟨a, c, rfl⟩
theorem PrsS.sl {W : World} {v : Value} {l : List (List (Int × Int))} (h : PrsS W v l) : ∃ a c, v = .slice a l.length c ∧ l.length ≤ 9223372036854775807 := by
  obtain ⟨a, c, rfl, h1, h2, _⟩ := h
  exact ⟨a, c, rfl, by unfold maxLen at h2; omega⟩

theorem img_body_ex (p : Img) (hp : p.body.length = 48) : p.cells.toArray.extract 1 (1 + 48) = (u8s p.body).toArray := by
  rw [show p.cells = [.int .i64 p.index] ++ u8s p.body from rfl]
  apply Array.toList_inj.1
  simp only [u8s, List.cons_append, List.nil_append, Array.toList_extract, List.extract_eq_take_drop, List.drop_succ_cons, List.drop_zero]
  exact List.take_of_length_le (by simp [hp])
set_option maxRecDepth 100000 in
/-- An image is like itself. -/
theorem eq_img {p : Img} (hp : p.body.length = 48) (w : World) : (Op.equalIn 10000 81 (.agg p.cells.toArray) (.agg p.cells.toArray)).run Try.prog w = .ok true w := by
  rw [run_equalIn_struct w 9999 81 _ _ (by kernel_rfl) (by kernel_rfl)]
  have h0 : ∃ f0 f1 : Field, Try.prog.fieldsOf 81 = #[f0, f1] ∧ (f0.name ≠ "_" ∧ f0.type = 3 ∧ f0.offset = 0) ∧ (f1.name ≠ "_" ∧ f1.type = 79 ∧ f1.offset = 1) :=
    ⟨_, _, rfl, ⟨by decide, rfl, rfl⟩, ⟨by decide, rfl, rfl⟩⟩
  obtain ⟨f0, f1, h0, ⟨n0, t0, o0⟩, ⟨n1, t1, o1⟩⟩ := h0
  rw [h0]
  simp only [Op.eqFields, Sem.run_bind, if_pos n0, if_pos n1, t0, t1, o0, o1]
  have a0 : p.cells.toArray[0]? = some (.int .i64 p.index) := rfl
  rw [part_int Try.underlying3 a0, Result.andThen_ok, part_int Try.underlying3 a0, Result.andThen_ok, run_equalIn_int w 9998 3 .i64 .i64 _ _ Try.underlying3, Result.andThen_ok]
  simp only [beq_self_eq_true, Bool.not_true, Bool.false_eq_true, if_false, Sem.run_bind]
  rw [part_bod, Result.andThen_ok, part_bod, Result.andThen_ok, img_body_ex p hp, eq_bod_at 9997 hp hp, Result.andThen_ok, alike_self]
  rfl

section
variable {n0 F C P : Nat} {q0 : Int} {ts us : List (List Img)} {S : RS} {t u : List Img}
theorem RS.app_way {A : Nat} {seq : Int} (hf : S.Few 250) (hC : C ≤ 256) (h0 : 0 < C) (hF : F + C ≤ S.n0) (ht : t.length + 1 ≤ C) : S.done ≤ (S.app F C A seq t).1.done ∧ (S.app F C A seq t).1.done ≤ S.done + 600 ∧ ((S.app F C A seq t).2 = 0 ∨ (S.app F C A seq t).2 = 14) := by
  rw [S.app_st]
  have l1 : ((txnB seq t).take t.length).length ≤ C := by rw [List.length_take, txnB_length]; omega
  have l2 : ((txnB seq t).drop t.length).length ≤ C := by rw [List.length_drop, txnB_length]; omega
  obtain ⟨s1, s2, s3, s4, s5, s6⟩ := RS.st_spec (wsAt_in (P := A) (L := (txnB seq t).take t.length) h0 hF) (wsAt_nodup l1) hf (by omega)
  obtain ⟨r1, r2, r3, r4, r5, r6⟩ := RS.st_spec (S := (S.st (wsAt F C A ((txnB seq t).take t.length))).1) (wsAt_in (P := A + t.length) (L := (txnB seq t).drop t.length) h0 (by rw [s1]; exact hF)) (wsAt_nodup l2) s5 (by omega)
  rw [wsAt_length] at s4 r4
  split
  · exact ⟨by omega, by omega, r6⟩
  · exact ⟨s3, by omega, s6⟩
theorem RS.app_few {A : Nat} {seq : Int} (hf : S.Few 250) (h0 : 0 < C) (hF : F + C ≤ S.n0) (ht : t.length + 1 ≤ C) : (S.app F C A seq t).1.Few 1000000 := by
  rw [S.app_st]
  have l1 : ((txnB seq t).take t.length).length ≤ C := by rw [List.length_take, txnB_length]; omega
  have l2 : ((txnB seq t).drop t.length).length ≤ C := by rw [List.length_drop, txnB_length]; omega
  obtain ⟨s1, s2, s3, s4, s5, s6⟩ := RS.st_spec (wsAt_in (P := A) (L := (txnB seq t).take t.length) h0 hF) (wsAt_nodup l1) hf (by omega)
  obtain ⟨r1, r2, r3, r4, r5, r6⟩ := RS.st_spec (S := (S.st (wsAt F C A ((txnB seq t).take t.length))).1) (wsAt_in (P := A + t.length) (L := (txnB seq t).drop t.length) h0 (by rw [s1]; exact hF)) (wsAt_nodup l2) s5 (by omega)
  split
  · exact r5.mono (by omega)
  · exact s5.mono (by omega)
/-- **Behind an Append with a fuse, and a crash.** -/
theorem Ln.torn (h : Ln n0 F C P q0 ts S) (ht : TxnOk C t) (hfit : (layB q0 ts).length + t.length + 1 ≤ C) (hts : ts.length ≤ 100) (k : Int) (b0 b1 : List Int) {S1 : RS} (hS1 : S1 = { S with fuse := k }) {A : Nat} {q : Int} (hA : A = nx C P q0 ts) (hq : q = seqAt q0 ts.length) :
    ∃ us, ((us = ts ∧ (S1.app F C A q t).2 ≠ 0) ∨ us = ts ++ [t]) ∧ RingIs ((S1.app F C A q t).1.crash b0 b1) F C P q0 us ∧
      repS ((S1.app F C A q t).1.crash b0 b1).rd F C P q0 = (us, nx C P q0 us, seqAt q0 us.length) ∧
      Rest ((S1.app F C A q t).1.crash b0 b1) F C P (layB q0 us).length (seqAt q0 us.length) ∧
      ((S1.app F C A q t).1.crash b0 b1).BB ∧ ((S1.app F C A q t).1.crash b0 b1).Up ∧ ((S1.app F C A q t).1.crash b0 b1).n0 = n0 ∧ 0 ≤ ((S1.app F C A q t).1.crash b0 b1).done ∧ ((S1.app F C A q t).1.crash b0 b1).done ≤ 50000 ∧ ((S1.app F C A q t).2 = 0 ∨ (S1.app F C A q t).2 = 14) := by
  subst hA hq
  have h1 : RingIs S1 F C P q0 ts := by rw [hS1]; exact ⟨h.ring.room, h.ring.two, h.ring.most, h.ring.at0, h.ring.seq, h.ring.ok, h.ring.fits, h.ring.lay⟩
  have h2 : RestZ S1 F C P (layB q0 ts).length := by rw [hS1]; exact h.rest
  have h3 : ∀ i, i < S1.n0 → (S1.D0 i).vs = [] := by rw [hS1]; exact h.dry
  have h4 : S1.BB := by rw [hS1]; exact h.bb
  have h5 : S1.Few 250 := by rw [hS1]; exact h.few.mono (by omega)
  have h6 : S1.done = S.done := by rw [hS1]
  have h7 : S1.n0 = n0 := by rw [hS1]; exact h.n0
  obtain ⟨us, e1, e2, e3, e4⟩ := h1.torn h2 ht hfit h3 b0 b1
  obtain ⟨d1, d2, d3⟩ := RS.app_way (A := nx C P q0 ts) (seq := seqAt q0 ts.length) (t := t) h5 h1.most (by have := h1.two; omega) h1.room ht.most
  have hn := (RS.app_cases (S := S1) (frm := F) (at0 := nx C P q0 ts) (seq := seqAt q0 ts.length) (t := t) (show 0 < C by have := h1.two; omega) h1.room).1.n0
  have hu := (S1.app F C (nx C P q0 ts) (seqAt q0 ts.length) t).1.crash_up b0 b1
  have dd := h.d1
  have d0 := h.d0
  refine ⟨us, e1, e2, e2.rep e3, e4, (h4.app (isSeq_at _ _) ht.ok).crash b0 b1, hu.1, hn.trans h7, ?_, ?_, d3⟩
  · rw [hu.2]; omega
  · rw [hu.2]; omega
/-- .. one more behind it. -/
theorem RingIs.then (h : RingIs S F C P q0 us) (hr : Rest S F C P (layB q0 us).length (seqAt q0 us.length)) (hu : S.Up) (hf : S.Few 250) (ht : TxnOk C u) (hfit : (layB q0 us).length + u.length + 1 ≤ C) :
    (S.app F C (nx C P q0 us) (seqAt q0 us.length) u).2 = 0 ∧ (S.app F C (nx C P q0 us) (seqAt q0 us.length) u).1.Up ∧ (S.app F C (nx C P q0 us) (seqAt q0 us.length) u).1.n0 = S.n0 ∧ repS (S.app F C (nx C P q0 us) (seqAt q0 us.length) u).1.rd F C P q0 = (us ++ [u], nx C P q0 (us ++ [u]), seqAt q0 (us ++ [u]).length) := by
  obtain ⟨e0, hup⟩ := RS.app_up (S := S) (frm := F) (count := C) (at0 := nx C P q0 us) (seq := seqAt q0 us.length) (t := u) hu (by have := h.two; omega) h.room
  have hfl : ∀ i, i < S.n0 → (S.D0 i).vs.length ≤ 255 := fun i hi => Nat.le_trans (hf.1 i hi) (by omega)
  have hn := (RS.app_cases (S := S) (frm := F) (at0 := nx C P q0 us) (seq := seqAt q0 us.length) (t := u) (show 0 < C by have := h.two; omega) h.room).1.n0
  exact ⟨e0, hup, hn, (h.app ht hfit hfl e0).rep (h.appRest hr ht hfit hfl e0)⟩
end
end Go.Proofs.Ytfmgaakbfphpbaa
