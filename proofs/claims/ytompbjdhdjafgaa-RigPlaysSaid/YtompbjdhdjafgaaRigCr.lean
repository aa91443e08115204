/- Crash. -/
import Derived.Test.YtompbjdhdjafgaaRigRd
import Derived.Test.YtompbjdhdjafgaaLook
namespace Go.Proofs.Ytompbjdhdjafgaa
open Go.RowKit Go.Shelf
set_option linter.unusedVariables false
attribute [-simp] Try.isAgg38 Try.zeroValue38
attribute [-go_sem] loadVar storeVar
attribute [local go_sem] zero_blk build_blk loadVar_open storeVar_open
attribute [local go_sem] Oper.semAt_some

theorem Sl.stay {k : IntKind} {w w' : World} {v : Value} {bs : List Int} (h : Sl k w v bs) (hs : w.heap.size ≤ w'.heap.size) (hb : bs ≠ [] → ∀ b off len cap, v = .slice (some ⟨b, off, none⟩) len cap → b < w.heap.size → w'.heap[b]? = w.heap[b]?) : Sl k w' v bs := by
  obtain ⟨a, cap, rfl, h1, h2, h3, h4⟩ := h
  refine ⟨a, cap, rfl, h1, h2, ?_, h4⟩
  rcases h3 with h3 | ⟨b, off, rfl, h5, h6⟩
  · exact .inl h3
  · by_cases hn : bs = []
    · exact .inl hn
    · exact .inr ⟨b, off, rfl, Nat.lt_of_lt_of_le h5 hs, fun j hj => (World.cell?_of_block (a := ⟨b, off + j, none⟩) (hb hn b off _ _ rfl h5)).trans (h6 j hj)⟩
theorem Sl.lt_of {k : IntKind} {w : World} {v : Value} {bs : List Int} (h : Sl k w v bs) (hn : bs ≠ []) {b off len cap : Nat} (e : v = .slice (some ⟨b, off, none⟩) len cap) : b < w.heap.size := by
  obtain ⟨a, cap', rfl, _, _, h3, _⟩ := h
  rcases h3 with h3 | ⟨b', off', rfl, h5, _⟩
  · exact absurd h3 hn
  · simp only [Value.slice.injEq, Option.some.injEq, Addr.mk.injEq] at e
    rw [← e.1.1]; exact h5

theorem Sep.firstC {P P' Q : Res} {w : World} {f : Nat → Prop} {g : FuncId} {args : Array Value} {R : Ending → World → Prop} (hP : IsRes P) (hQ : IsRes Q) (h : Sep P Q w f)
    (hc : ∀ f1, P w f1 → (∀ k, f1 k → f k) → Calls Try.prog g args w fun e w' => R e w' ∧ ∃ f1', P' w' f1' ∧ Turn f1 f1' w w') : Calls Try.prog g args w fun e w' => R e w' ∧ ∃ f', Sep P' Q w' f' ∧ Turn f f' w w' := by
  obtain ⟨f1, f2, h1, h2, h3, rfl⟩ := h
  exact (hc f1 h1 (fun k hk => .inl hk)).mono fun e w' ⟨hr, h⟩ => ⟨hr, Turn.first hP hQ h1 h2 h3 h⟩
theorem Sep.secondC {P Q Q' : Res} {w : World} {f : Nat → Prop} {g : FuncId} {args : Array Value} {R : Ending → World → Prop} (hP : IsRes P) (hQ : IsRes Q) (h : Sep P Q w f)
    (hc : ∀ f2, Q w f2 → (∀ k, f2 k → f k) → Calls Try.prog g args w fun e w' => R e w' ∧ ∃ f2', Q' w' f2' ∧ Turn f2 f2' w w') : Calls Try.prog g args w fun e w' => R e w' ∧ ∃ f', Sep P Q' w' f' ∧ Turn f f' w w' :=
  (Sep.firstC hQ hP h.swap hc).mono fun e w' ⟨hr, f', h1, h2⟩ => ⟨hr, f', h1.swap, h2⟩

/-- One disk crashes. -/
noncomputable def RS.cr0 (S : RS) (b : List Int) : RS := { S with D0 := settled S.D0 (crashG S.D0 b) (looseTo S.D0 S.n0) }
noncomputable def RS.cr1 (S : RS) (b : List Int) : RS := { S with D1 := settled S.D1 (crashG S.D1 b) (looseTo S.D1 S.n1) }
section
variable {rb p0 p1 : Nat} {S : RS} {w : World} {f : Nat → Prop} {v : Value} {b : List Int}
theorem RigR.crash0 (h : RigR rb p0 p1 S w f) (hv : Sl .u8 w v b) (hB : IsBytes b) (hc : b ≠ [] → Clear f v) (hm : S.Few 1000000) :
    Calls Try.prog 40 #[.pointer (some ⟨p0, 0, none⟩), v] w fun e w' => e = .returned (.tuple #[]) ∧ ∃ f', RigR rb p0 p1 (S.cr0 b) w' f' ∧ Turn f f' w w' := by
  refine Sep.secondC (R := fun e _ => e = .returned (.tuple #[])) (RowR.isRes _ _ _) (S.disks_isRes p0 p1) h (Q' := (S.cr0 b).disks p0 p1) fun f2 h2 hs2 => ?_
  refine Sep.firstC (R := fun e _ => e = .returned (.tuple #[])) (DskR.isRes _ _ _) (DskR.isRes _ _ _) h2 fun f3 h3 hs3 => ?_
  refine (crash_at p0 S.n0 f3 S.D0 v b w h3.1 h3.2 hv hB (fun hn x off len cap e hf => hc hn x off len cap e (hs2 _ (hs3 _ hf))) hm.1).mono ?_
  rintro e w' ⟨rfl, f', g1, g2⟩
  exact ⟨rfl, f', ⟨g1, h3.2⟩, g2⟩
theorem RigR.crash1 (h : RigR rb p0 p1 S w f) (hv : Sl .u8 w v b) (hB : IsBytes b) (hc : b ≠ [] → Clear f v) (hm : S.Few 1000000) :
    Calls Try.prog 40 #[.pointer (some ⟨p1, 0, none⟩), v] w fun e w' => e = .returned (.tuple #[]) ∧ ∃ f', RigR rb p0 p1 (S.cr1 b) w' f' ∧ Turn f f' w w' := by
  refine Sep.secondC (R := fun e _ => e = .returned (.tuple #[])) (RowR.isRes _ _ _) (S.disks_isRes p0 p1) h (Q' := (S.cr1 b).disks p0 p1) fun f2 h2 hs2 => ?_
  refine Sep.secondC (R := fun e _ => e = .returned (.tuple #[])) (DskR.isRes _ _ _) (DskR.isRes _ _ _) h2 fun f3 h3 hs3 => ?_
  refine (crash_at p1 S.n1 f3 S.D1 v b w h3.1 h3.2 hv hB (fun hn x off len cap e hf => hc hn x off len cap e (hs2 _ (hs3 _ hf))) hm.2).mono ?_
  rintro e w' ⟨rfl, f', g1, g2⟩
  exact ⟨rfl, f', ⟨g1, h3.2⟩, g2⟩
end

/-- What has come. -/
noncomputable def RS.cr (S : RS) (b0 b1 : List Int) : List Nat → RS
  | [] => S
  | [_] => S.cr0 b0
  | _ => (S.cr0 b0).cr1 b1
theorem RS.cr0_few {S : RS} {m : Nat} (h : S.Few m) (b : List Int) : (S.cr0 b).Few m := ⟨fun i hi => by
  show (settled S.D0 _ _ i).vs.length ≤ m
  rw [settled_none S.D0 _ S.n0 i hi]; exact Nat.zero_le _, h.2⟩
/-- Between two rounds. -/
def CrashI (w : World) (f : Nat → Prop) (rb p0 p1 : Nat) (S : RS) (b0 b1 : List Int) (pre : List Nat) (W : World) : Prop := ∃ f', RigR rb p0 p1 (S.cr b0 b1 pre) W f' ∧ Turn f f' w W

theorem crashI_own (w : World) (f : Nat → Prop) (rb p0 p1 : Nat) (S : RS) (b0 b1 : List Int) (N : Nat) (hN : w.heap.size ≤ N) : OwnFrom N (CrashI w f rb p0 p1 S b0 b1) := by
  rintro pre W W' row ⟨f', h1, h2⟩ hg hr
  exact ⟨f', (RigR.isRes _ _ _ _).grown h1 hg (fun r e => (hr r e).2), h2.kept hg (fun r e => Nat.le_trans hN (hr r e).1)⟩

theorem row_own {β : Type} (B : Nat) (t : TypeId) (a : Array Value) (N : Nat) : OwnFrom (β := β) N (fun _ W => W.heap[B]? = some (.cells a t (0, 0))) := by
  rintro s W W' row h hg hr
  refine (hg.block B (Array.getElem?_eq_some_iff.1 h).1 fun e => ?_).trans h
  obtain ⟨_, o, ho, hc⟩ := hr B e.symm
  rw [h] at ho; cases ho; cases hc

set_option maxRecDepth 100000 in
set_option maxHeartbeats 4000000 in
/-- **Crash**. -/
theorem RigR.crash {rb p0 p1 : Nat} {S : RS} {w : World} {f : Nat → Prop} {v0 v1 : Value} {b0 b1 : List Int} (h : RigR rb p0 p1 S w f) (hv0 : Sl .u8 w v0 b0) (hv1 : Sl .u8 w v1 b1) (hB0 : IsBytes b0) (hB1 : IsBytes b1) (hc0 : b0 ≠ [] → Clear f v0) (hc1 : b1 ≠ [] → Clear f v1) (hm : S.Few 1000000) :
    Calls Try.prog 19 #[.pointer (some ⟨rb, 0, none⟩), v0, v1] w fun e w' => e = .returned (.tuple #[]) ∧ ∃ f', RigR rb p0 p1 (S.crash b0 b1) w' f' ∧ Turn f f' w w' := by
  obtain ⟨a0, cap0, rfl, -, -, -, -⟩ := id hv0
  obtain ⟨a1, cap1, rfl, -, -, -, -⟩ := id hv1
  obtain ⟨L0, hL0⟩ : ∃ L, b0.length = L := ⟨_, rfl⟩
  obtain ⟨L1, hL1⟩ : ∃ L, b1.length = L := ⟨_, rfl⟩
  rw [hL0] at hv0 hc0 ⊢
  rw [hL1] at hv1 hc1 ⊢
  have H := Lib.hid h
  have HV0 := Lib.hid hv0
  have HV1 := Lib.hid hv1
  have HB0 := Lib.hid hB0
  have HB1 := Lib.hid hB1
  have HC0 := Lib.hid hc0
  have HC1 := Lib.hid hc1
  have HM := Lib.hid hm
  clear h hv0 hv1 hB0 hB1 hc0 hc1 hm hL0 hL1
  refine (callsIn_wide (n := 3)).1 ?_
  refine callsIn_of_wp_marks Try.func19 rfl trivial ?_ rfl
  simp only [Try.ntmps19, List.size_toArray, List.length_cons, List.length_nil, Nat.reduceAdd, Nat.reduceSub, Array.replicate_succ, Array.replicate_zero, List.push_toArray, List.append_toArray, List.nil_append, List.cons_append]
  gi_wp2_with (refine ⟨trivial, ?_⟩; gi_at_call 39; refine (disks_in _ _ trivial rfl _ _).mono ?_; rintro e w' ⟨rfl, rfl⟩)
  obtain ⟨W0, hW0⟩ : ∃ W0, (w.alloc (.cells #[.slice a0 L0 cap0, .slice a1 L1 cap1] 78)).alloc (.cells #[.pointer (some ⟨rb, 0, none⟩)] 26) = W0 := ⟨_, rfl⟩
  have br : W0.heap[w.heap.size]? = some (.cells #[.slice a0 L0 cap0, .slice a1 L1 cap1] 78 (0, 0)) := by rw [← hW0, Below.heap_alloc _ _ _ (by simp)]; exact heap_alloc_new w _
  have bd : Boxed W0 (w.heap.size + 1) 26 (.pointer (some ⟨rb, 0, none⟩)) := by
    rw [← hW0]
    have := Boxed.new (w.alloc (.cells #[.slice a0 L0 cap0, .slice a1 L1 cap1] 78)) 26 (.pointer (some ⟨rb, 0, none⟩))
    rwa [World.size_alloc] at this
  have hB0 : Below w.heap.size w W0 := by rw [← hW0]; exact ((Below.refl _ w).alloc (Nat.le_refl _) _).alloc (by simp) _
  have hsz0 : W0.heap.size = w.heap.size + 2 := by rw [← hW0]; simp
  rw [hW0]
  clear hW0
  have P0 : CrashI W0 f rb p0 p1 S b0 b1 [] W0 := ⟨f, H.out.beside hB0, Turn.refl _ _⟩
  have HF : Hid (∀ k, f k → k < w.heap.size) := (RigR.isRes rb p0 p1 S).lt H.out
  have HSZ := Lib.hid hsz0
  have HBZ := Lib.hid hB0
  -- what the two crashes come to
  have stay : ∀ {v : Value} {b : List Int} {f' : Nat → Prop} {W : World}, Sl .u8 w v b → (b ≠ [] → Clear f v) → Turn f f' W0 W → Sl .u8 W v b ∧ (b ≠ [] → Clear f' v) := fun {v b f' W} hs hc ht =>
    ⟨(hs.below hB0).stay ht.size (fun hn x off len cap e hx => ht.out x hx (hc hn x off len cap e)), fun hn x off len cap e hf => (ht.new x hf).elim (hc hn x off len cap e) (fun h => by have := hs.lt_of hn e; omega)⟩
  have beyond : ∀ {f' f'' : Nat → Prop} {W w' : World} {k : Nat}, Turn f f' W0 W → Turn f' f'' W w' → w.heap.size ≤ k → k < W0.heap.size → w'.heap[k]? = W.heap[k]? := fun {f' f'' W w' k} ht hu h1 h2 =>
    hu.out k (Nat.lt_of_lt_of_le h2 ht.size) (fun h => (ht.new k h).elim (fun h => by have := HF.out k h; omega) (fun h => by omega))
  have STEP : Hid (∀ (pre : List Nat) (x : Nat) (W : World), DisksOk pre x → CrashI W0 f rb p0 p1 S b0 b1 pre W → Boxed W (w.heap.size + 1) 26 (.pointer (some ⟨rb, 0, none⟩)) → W.heap[w.heap.size]? = some (.cells #[.slice a0 L0 cap0, .slice a1 L1 cap1] 78 (0, 0)) →
      Calls Try.prog 40 #[.pointer (some ⟨dsk p0 p1 x, 0, none⟩), if x = 0 then .slice a0 L0 cap0 else .slice a1 L1 cap1] W fun e w' => e = .returned (.tuple #[]) ∧ CrashI W0 f rb p0 p1 S b0 b1 (pre ++ [x]) w' ∧ KeepsOthers W w' ∧ Boxed w' (w.heap.size + 1) 26 (.pointer (some ⟨rb, 0, none⟩)) ∧ w'.heap[w.heap.size]? = some (.cells #[.slice a0 L0 cap0, .slice a1 L1 cap1] 78 (0, 0))) := by
    rintro pre x W hok ⟨f', g1, g2⟩ hbd hbr
    rcases hok with ⟨rfl, rfl⟩ | ⟨rfl, rfl⟩
    · obtain ⟨s1, s2⟩ := stay HV0.out HC0.out g2
      refine (RigR.crash0 (S := S) g1 s1 HB0.out s2 HM.out).mono ?_
      rintro e w' ⟨rfl, f'', g3, g4⟩
      exact ⟨rfl, ⟨f'', g3, g2.trans g4⟩, g4.others, (beyond g2 g4 (by omega) (by omega)).trans hbd, (beyond g2 g4 (by omega) (by omega)).trans hbr⟩
    · obtain ⟨s1, s2⟩ := stay HV1.out HC1.out g2
      refine (RigR.crash1 (S := S.cr0 b0) g1 s1 HB1.out s2 (RS.cr0_few HM.out b0)).mono ?_
      rintro e w' ⟨rfl, f'', g3, g4⟩
      exact ⟨rfl, ⟨f'', g3, g2.trans g4⟩, g4.others, (beyond g2 g4 (by omega) (by omega)).trans hbd, (beyond g2 g4 (by omega) (by omega)).trans hbr⟩
  clear stay beyond
  refine wpIn_rangeFunc_by (n := 3) rfl (by omega) (gf := 49) (lb := #[.pointer (some ⟨w.heap.size + 1, 0, none⟩)]) rfl trivial (enters_of Try.func49 (by kernel_rfl) rfl)
    (fun pre W => Boxed W (w.heap.size + 1) 26 (.pointer (some ⟨rb, 0, none⟩)) ∧ W.heap[w.heap.size]? = some (.cells #[.slice a0 L0 cap0, .slice a1 L1 cap1] 78 (0, 0)) ∧ CrashI W0 f rb p0 p1 S b0 b1 pre W)
    (fun _ _ _ => False)
    ((disks_by (w.heap.size + 1) rb p0 p1 W0).mono fun pre W hI => ⟨hI.1, by obtain ⟨f', g1, _⟩ := hI.2.2; exact g1.cell 0, by obtain ⟨f', g1, _⟩ := hI.2.2; exact g1.cell 1⟩)
    (Below.refl _ _) (fun _ => rfl)
    ((boxed_from _ _ (fun _ => .pointer (some ⟨rb, 0, none⟩)) _).and ((row_own _ _ _ _).and (crashI_own W0 f rb p0 p1 S b0 b1 _ (Nat.le_refl _))))
    (fun _ _ _ _ _ h _ _ => h.elim) ⟨bd, br, P0⟩ ?a1 ?assign ?body ?done ?stop
  case assign =>
    intro l x W K hK
    dsimp only [encD]
    gi_wp2
    exact hK
  case body =>
    rintro l pre x W ⟨hbd, hbr, hI⟩ hok
    have HS := Lib.hid (STEP.out pre x W hok hI hbd hbr)
    have c0 : W.cell? ⟨w.heap.size, 0, none⟩ = some (.slice a0 L0 cap0) := by rw [cell_of_row _ _ _ _ _ _ hbr]; rfl
    have c1 : W.cell? ⟨w.heap.size, 1, none⟩ = some (.slice a1 L1 cap1) := by rw [cell_of_row _ _ _ _ _ _ hbr]; rfl
    have c1' : W.cell? ⟨w.heap.size, 0 + 1, none⟩ = some (.slice a1 L1 cap1) := c1
    clear hI hbd hbr
    rcases hok with ⟨rfl, rfl⟩ | ⟨rfl, rfl⟩
    · rw [if_pos rfl] at HS
      gi_wp2_with (refine ⟨trivial, ?_⟩; gi_at_call 40; refine (CallsIn.inRound l (callsIn_wide.2 HS.out)).mono ?_; rintro e w' ⟨rfl, e1, e2, e3, e4⟩)
      exact ⟨e2.from _, trivial, e3, e4, e1⟩
    · rw [if_neg (by omega)] at HS
      gi_wp2_with (refine ⟨trivial, ?_⟩; gi_at_call 40; refine (CallsIn.inRound l (callsIn_wide.2 HS.out)).mono ?_; rintro e w' ⟨rfl, e1, e2, e3, e4⟩)
      exact ⟨e2.from _, trivial, e3, e4, e1⟩
  case done =>
    rintro Dd xs W hDd rfl ⟨hbd, hbr, f', g1, g2⟩ hK
    have q2 : W.cell? ⟨rb, 2, none⟩ = some (.int .i64 S.fuse) := g1.cell 2
    have q3 : W.cell? ⟨rb, 3, none⟩ = some (.bool S.down) := g1.cell 3
    have r2 := g1.frozen 2
    have r3 := g1.frozen 3
    have G1 := Lib.hid g1
    have G2 := Lib.hid g2
    clear g1 g2 hbd hbr
    gi_wp2
    have hK' := (KeepsOthers.setCell (W.setCell ⟨rb, 2, none⟩ (.int .i64 (-1))) ⟨rb, 3, none⟩ (.bool false)).same Dd _ ((KeepsOthers.setCell W ⟨rb, 2, none⟩ (.int .i64 (-1))).same Dd _ hK rfl) rfl
    refine ⟨by simp, .inl ⟨_, _, rfl, run_takeDeferred hK', ?_⟩⟩
    obtain ⟨g3, g4⟩ := G1.out.set (RS.disks_isRes p0 p1 _) 2 (.int .i64 (-1))
    obtain ⟨g5, g6⟩ := g3.set (RS.disks_isRes p0 p1 _) 3 (.bool false)
    have hgr := grownBy_putObj' ((W.setCell ⟨rb, 2, none⟩ (.int .i64 (-1))).setCell ⟨rb, 3, none⟩ (.bool false)) Dd (.deferred none)
    have hT := (Turn.of_below (f := f) HBZ.out).trans ((G2.out.trans g4).trans g6)
    exact ⟨_, results_none rfl _ _ _, rfl, f', (RigR.isRes rb p0 p1 (S.crash b0 b1)).grown g5 hgr (fun r e => by cases e; exact ⟨_, hK', rfl⟩), hT.kept hgr (fun r e => by cases e; have := HSZ.out; omega)⟩
  case stop =>
    rintro D c pre W _ h _
    exact h.elim
end Go.Proofs.Ytompbjdhdjafgaa
