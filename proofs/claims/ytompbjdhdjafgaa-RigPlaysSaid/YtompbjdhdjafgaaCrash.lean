/- Crash. -/
import Derived.Test.YtompbjdhdjafgaaFlush
namespace Go.Proofs.Ytompbjdhdjafgaa
open Go.RowKit Go.Shelf
set_option linter.unusedVariables false
attribute [-simp] Try.isAgg38 Try.zeroValue38
attribute [-go_sem] loadVar storeVar
attribute [local go_sem] zero_blk build_blk loadVar_open storeVar_open
attribute [local go_sem] Oper.semAt_some

/-- What a crash makes of the sector with m versions that has place i among the loose ones. -/
def crashK (bs : List Int) (i m : Nat) : Nat := if i < bs.length then (bs[i]?.getD 0).toNat % (m + 1) else 0
theorem crashK_le (bs : List Int) (i m : Nat) : crashK bs i m ≤ m := by
  unfold crashK; split
  · exact Nat.le_of_lt_succ (Nat.mod_lt _ (by omega))
  · omega
def crashG (D : Nat → Sec) (bs : List Int) (j : Nat) : Nat := crashK bs (looseTo D j).length (D j).vs.length

/-- Where the bytes of pick are: no block of the disk. -/
def Clear (f : Nat → Prop) (v : Value) : Prop := ∀ b off len cap, v = .slice (some ⟨b, off, none⟩) len cap → ¬ f b

theorem letsOut_ownG {α : Type} {B : Nat} {Kp : World → World → Prop} {I : List α → World → Prop} {Ix : Code → List α → World → Prop} {xs : List α} {W : World} : ¬ LetsOut (ownPostG B Kp I Ix xs W) := fun ⟨a, w, e⟩ => e.elim

/-- A variable of the caller's is written. -/
theorem Part.box {w W : World} {rb sb n B t : Nat} {f : Nat → Prop} {D : Nat → Sec} {g : Nat → Nat} {pre : List Nat} {u : Value} (h : Part w rb sb n f D g pre W) (hb : Boxed W B t u) (ht : t ≠ 38) (hB : w.heap.size ≤ B) (h1 : rb < w.heap.size) (h2 : sb < w.heap.size) (u' : Value) :
    Part w rb sb n f D g pre (W.setCell ⟨B, 0, none⟩ u') := by
  obtain ⟨sv, hd, htn⟩ := h
  refine ⟨sv, hd.kept fun k hk => Below.heap_setCell _ _ _ k (fun e => ?_), htn.kept (grownBy_setCell' W B u') (fun r e => by cases e; exact hB)⟩
  have e : B = k := e.symm
  subst e
  rcases hk with rfl | rfl | ⟨i, hi, hk⟩
  · omega
  · omega
  · exact hb.not_row ht (hd.secs i hi).row hk.symm

/-- How a round ends. -/
theorem crash_end {w W w' : World} {rb sb n K N : Nat} {sv : Nat → Value} {D : Nat → Sec} {g : Nat → Nat} {pv dv : Value} {pre : List Nat} {x : Nat} {a : Act} (HD : DskAt w rb sb n sv D) (hn : 0 < n) (hK : pre.length = K)
    (e1 : Boxed w' w.heap.size 33 pv) (e2 : Boxed w' (w.heap.size + 1) 3 (.int .i64 (K : Int))) (e3 : Boxed w' (w.heap.size + 1 + 1) 62 dv) (e4 : KeepsOthers W w') (e5 : Part w rb sb n (foot rb sb n sv) D g (pre ++ [x]) w') (hN : w.heap.size ≤ N) :
    ownPostG N (fun _ _ => True) (fun pre W => Boxed W w.heap.size 33 pv ∧ Boxed W (w.heap.size + 1) 3 (.int .i64 (pre.length : Int)) ∧ Boxed W (w.heap.size + 1 + 1) 62 dv ∧ Part w rb sb n (foot rb sb n sv) D g pre W)
      (fun _ _ _ => False) (pre ++ [x]) W Exit.normal a (w'.setCell ⟨w.heap.size + 1, 0, none⟩ (.int .i64 ((K : Int) + 1))) := by
  refine ⟨(e4.trans (KeepsOthers.setCell _ _ _)).from _, trivial, e1.other (by omega) _, ?_, e3.other (by omega) _, e5.box e2 (by decide) (by omega) (HD.lt hn (.inl rfl)) (HD.lt hn (.inr (.inl rfl))) _⟩
  have := e2.set (.int .i64 ((K : Int) + 1))
  rw [List.length_append, hK]
  exact this

set_option maxRecDepth 100000 in
set_option maxHeartbeats 4000000 in
/-- **Crash**. -/
theorem crash_at (rb n : Nat) (f : Nat → Prop) (D : Nat → Sec) (v : Value) (bs : List Int) (w : World) (h : Disk w rb n f D) (hn : 0 < n) (hv : Sl .u8 w v bs) (hB : IsBytes bs) (hc : bs ≠ [] → Clear f v) (hl : ∀ i, i < n → (D i).vs.length ≤ 1000000) :
    Calls Try.prog 40 #[.pointer (some ⟨rb, 0, none⟩), v] w fun e w' => e = .returned (.tuple #[]) ∧ ∃ f', Disk w' rb n f' (settled D (crashG D bs) (looseTo D n)) ∧ Turn f f' w w' := by
  obtain ⟨g, hg⟩ : ∃ g : Nat → Nat, crashG D bs = g := ⟨_, rfl⟩
  rw [hg]
  obtain ⟨ad, cap, rfl, hcap, hmaxc, hlies, -⟩ := hv
  refine (callsIn_wide (n := 3)).1 ?_
  refine callsIn_of_wp_marks Try.func40 rfl trivial ?_ rfl
  simp only [Try.ntmps40, List.size_toArray, List.length_cons, List.length_nil, Nat.reduceAdd, Nat.reduceSub, Array.replicate_succ, Array.replicate_zero, List.push_toArray, List.append_toArray, List.nil_append, List.cons_append]
  obtain ⟨sb, sv, hd, rfl⟩ := h
  have hmax := hd.max
  have HD := Lib.hid hd
  have HG := Lib.hid hg
  have HC := Lib.hid hc
  have HLI := Lib.hid hlies
  have HBY := Lib.hid hB
  have HMC := Lib.hid hmaxc
  have HCAP := Lib.hid hcap
  obtain ⟨L, hL⟩ : ∃ L, bs.length = L := ⟨_, rfl⟩
  have HL := Lib.hid hL
  rw [hL]
  clear hd hg hc hlies hB hmaxc hcap hL
  gi_wp2_with (refine ⟨trivial, ?_⟩; gi_at_call 47; refine (loose_in _ _ trivial rfl _ _).mono ?_; rintro e w' ⟨rfl, rfl⟩)
  obtain ⟨W0, hW0⟩ : ∃ W0, (((w.alloc (.cells #[.slice ad L cap] 33)).alloc (.cells #[.int .i64 0] 3)).alloc (.cells #[.pointer (some ⟨rb, 0, none⟩)] 62)) = W0 := ⟨_, rfl⟩
  have bp0 : Boxed W0 w.heap.size 33 (.slice ad L cap) := by rw [← hW0]; exact ((Boxed.new w _ _).alloc _).alloc _
  have bk0 : Boxed W0 (w.heap.size + 1) 3 (.int .i64 0) := by
    rw [← hW0]
    have := (Boxed.new (w.alloc (.cells #[.slice ad L cap] 33)) 3 (.int .i64 0)).alloc (.cells #[.pointer (some ⟨rb, 0, none⟩)] 62)
    rwa [World.size_alloc] at this
  have bd0 : Boxed W0 (w.heap.size + 1 + 1) 62 (.pointer (some ⟨rb, 0, none⟩)) := by
    rw [← hW0]
    have := Boxed.new ((w.alloc (.cells #[.slice ad L cap] 33)).alloc (.cells #[.int .i64 0] 3)) 62 (.pointer (some ⟨rb, 0, none⟩))
    rwa [World.size_alloc, World.size_alloc] at this
  have hB0 : Below w.heap.size w W0 := by rw [← hW0]; exact (((Below.refl _ w).alloc (Nat.le_refl _) _).alloc (by simp) _).alloc (by simp; omega) _
  have hsz0 : W0.heap.size = w.heap.size + 3 := by rw [← hW0]; simp
  rw [hW0]
  clear hW0
  have P0 : Part w rb sb n (foot rb sb n sv) D g [] W0 := ⟨sv, by rw [settled_nil]; exact HD.out.kept (fun k hk => hB0.block k (HD.out.lt hn hk)), Turn.of_below hB0⟩
  refine wpIn_rangeFunc_by (n := 3) rfl (by omega) (gf := 51) (lb := #[.pointer (some ⟨w.heap.size + 1 + 1, 0, none⟩)]) rfl trivial (enters_of Try.func51 (by kernel_rfl) rfl)
    (fun pre W => Boxed W w.heap.size 33 (.slice ad L cap) ∧ Boxed W (w.heap.size + 1) 3 (.int .i64 (pre.length : Int)) ∧ Boxed W (w.heap.size + 1 + 1) 62 (.pointer (some ⟨rb, 0, none⟩)) ∧ Part w rb sb n (foot rb sb n sv) D g pre W)
    (fun _ _ _ => False)
    ((loose_by (w.heap.size + 1 + 1) rb sb n D W0).mono fun pre W hI => ⟨hI.2.2.1, by obtain ⟨sv', h1, _⟩ := hI.2.2.2; exact ⟨sv', _, h1, fun i _ hi => by rw [settled_not hi]⟩⟩)
    (Below.refl _ _) (fun _ => rfl)
    ((boxed_from _ _ (fun _ => .slice ad L cap) _).and ((boxed_from _ _ (fun pre : List Nat => .int .i64 (pre.length : Int)) _).and ((boxed_from _ _ (fun _ => .pointer (some ⟨rb, 0, none⟩)) _).and (part_own w rb sb n _ D g hn _ (by omega)))))
    (fun _ _ _ _ _ h _ _ => h.elim) ⟨bp0, bk0, bd0, P0⟩ ?a1 ?assign ?body ?done ?stop
  case assign =>
    intro l x W K hK
    dsimp only [encL]
    gi_wp2
    exact hK
  case body =>
    rintro l pre x W ⟨hbp, hbk, hbd, sv', h1, h2⟩ ⟨k, hk, rfl, rfl, hvs⟩
    have hs := h1.secs x hk
    have hsv := hs.ver
    have hsx : settled D g (looseTo D x) x = D x := settled_not (not_mem_self D x)
    obtain ⟨a, cap', hf, hc1, hc2, -⟩ := hs.form
    rw [hsx] at hf hc1
    obtain ⟨m, hm⟩ : ∃ m, (D x).vs.length = m := ⟨_, rfl⟩
    rw [hf, hm] at hsv
    rw [hm] at hc1
    obtain ⟨K, hK⟩ : ∃ K, (looseTo D x).length = K := ⟨_, rfl⟩
    have hKx : K ≤ x := by rw [← hK]; exact looseTo_length D x
    have hgx : g x = crashK bs K m := by rw [← HG.out, crashG, hK, hm]
    have hgm : g x ≤ m := by rw [hgx]; exact crashK_le _ _ _
    obtain ⟨q, hq⟩ : ∃ q, g x = q := ⟨_, rfl⟩
    have hS : ∀ W' : World, W' = W ∨ W' = W.drew → Calls Try.prog 48 #[.pointer (some ⟨sb, x * 65, none⟩), .int .i64 (q : Int)] W' fun e w' => e = .returned (.tuple #[]) ∧ Boxed w' w.heap.size 33 (.slice ad L cap) ∧ Boxed w' (w.heap.size + 1) 3 (.int .i64 (K : Int)) ∧ Boxed w' (w.heap.size + 1 + 1) 62 (.pointer (some ⟨rb, 0, none⟩)) ∧ KeepsOthers W w' ∧ Part w rb sb n (foot rb sb n sv) D g (looseTo D x ++ [x]) w' := by
      intro W' hW'
      have hsec : SecAt W' 0 sb (x * 65) (settled D g (looseTo D x) x) (sv' x) := by rcases hW' with rfl | rfl; exact hs; exact hs.kept rfl (fun _ _ => rfl)
      have hlt : sb < w.heap.size := (HD.out.secs x hk).lt
      refine (settle_at 0 sb (x * 65) q _ _ W' hsec (by rw [hsx, ← hq, hm]; exact hgm)).mono ?_
      rintro e w' ⟨rfl, hsa, hst⟩
      have hst' : Step W w' sb (x * 65) (sv' x) := by rcases hW' with rfl | rfl; exact hst; exact (Step.refl W sb (x * 65) (sv' x)).drew.trans hst
      exact ⟨rfl, Boxed.step hbp hst' hs.row (by decide) (by omega), Boxed.step (by rw [← hK]; exact hbk) hst' hs.row (by decide) (by omega), Boxed.step hbd hst' hs.row (by decide) (by omega), hst'.others, Part.next h1 h2 hk (not_mem_self D x) (by rw [hq]; exact hsa) hst'⟩
    have HS := Lib.hid hS
    have d1 := hbp.cell
    have d2 := hbk.cell
    rw [hK] at d2
    have HK := Lib.hid hK
    have HW1 : Hid (wrap64 ((K : Int) + 1) = (K : Int) + 1) := IntWalk.wrap64_in _ (by omega)
    by_cases hKL : K < L
    · obtain ⟨b, off, rfl, hbw, hby⟩ : ∃ b off, ad = some ⟨b, off, none⟩ ∧ b < w.heap.size ∧ ∀ j, j < bs.length → w.cell? ⟨b, off + j, none⟩ = some (.int .u8 (bs[j]?.getD 0)) := by
        rcases HLI.out with e | e
        · have := HL.out; rw [e] at this; simp at this; omega
        · exact e
      obtain ⟨y, hy⟩ : ∃ y, bs[K]?.getD 0 = y := ⟨_, rfl⟩
      obtain ⟨y0, y1⟩ := HBY.out K
      rw [hy] at y0 y1
      have d3 : W.cell? ⟨b, off + K, none⟩ = some (.int .u8 y) := by
        rw [← hy, ← hby K (by rw [HL.out]; exact hKL)]
        exact World.cell?_of_block (a := ⟨b, off + K, none⟩) (h2.out b hbw (HC.out (fun e => by have := HL.out; rw [e] at this; simp at this; omega) b off _ _ rfl))
      have hqy : q = y.toNat % (m + 1) := by rw [← hq, hgx, crashK, if_pos (by rw [HL.out]; exact hKL), hy]
      have hlt : (K : Int) < (L : Int) := by omega
      have HY0 : Hid (0 ≤ y) := y0
      have HY1 : Hid (y < 256) := y1
      have HQY : Hid (y % ((m : Int) + 1) = (q : Int)) := by
        show _ = _
        obtain ⟨z, rfl⟩ := Int.eq_ofNat_of_zero_le y0
        rw [hqy, Int.toNat_natCast, Int.natCast_emod, Int.natCast_add]
        rfl
      have HM : Hid ((m : Int) ≤ 1000000) := by have := hl x hk; show _ ≤ _; omega
      have hmx : Try.prog.follows .mixedOrders = true := by kernel_rfl
      clear hs hf hsx hm hgx hgm hq hS h1 h2 hk hvs hbp hbk hbd hc1 hc2 hK hKx hKL hby hy y0 y1 hqy hbw
      gi_wp2
      · have hm1 := HM.out
        have y0 := HY0.out
        have y1 := HY1.out
        refine region_plan_round (fun x => x = W.drew) 12 (.takes [0, 1, 2, 3, 4, 5, 6, 7, 8, 9, 10, 11] .leaf) (fun ⟨a, w, e⟩ => False.elim e) (by kernel_rfl) hmx (by kernel_rfl) (by intro c x v a w h; cases x <;> exact h) rfl ?_
        repeat (rw [wpPlan_takes_cons]; simp only [nth_zero, nth_succ]; go_big_quiet_step (fail); refine wpQuiet_nil ?_)
        rw [wpPlan_takes_nil, wpPlan_leaf]
        simp only [List.drop_succ_cons, List.drop_zero]
        rw [HQY.out]
        clear hm1 y0 y1
        go_wp2_with fail
        gi_wp2_with (refine ⟨trivial, ?_⟩; gi_at_call 48; refine (CallsIn.inRound l (callsIn_wide.2 (HS.out _ (.inr rfl)))).mono ?_; rintro e w' ⟨rfl, e1, e2, e3, e4, e5⟩; have e2c := e2.cell; have e2f := e2.frozen; have E1 := Lib.hid e1; have E2 := Lib.hid e2; have E3 := Lib.hid e3; have E4 := Lib.hid e4; have E5 := Lib.hid e5; clear e1 e2 e3 e4 e5)
        have HLT := HD.out
        rw [HW1.out]
        exact crash_end HLT hn HK.out E1.out E2.out E3.out E4.out E5.out (by omega)
    · have hq0 : q = 0 := by rw [← hq, hgx]; unfold crashK; rw [if_neg (by rw [HL.out]; exact hKL)]
      subst hq0
      have g1 : ¬ ((K : Int) < (L : Int)) := by omega
      clear hs hf hsx hm hgx hgm hq hS h1 h2 hk hvs hbp hbk hbd hc1 hc2 hK hKx hKL
      gi_wp2_with (refine ⟨trivial, ?_⟩; gi_at_call 48; refine (CallsIn.inRound l (callsIn_wide.2 (HS.out _ (.inl rfl)))).mono ?_; rintro e w' ⟨rfl, e1, e2, e3, e4, e5⟩; have e2c := e2.cell; have e2f := e2.frozen; have E1 := Lib.hid e1; have E2 := Lib.hid e2; have E3 := Lib.hid e3; have E4 := Lib.hid e4; have E5 := Lib.hid e5; clear e1 e2 e3 e4 e5)
      have HLT := HD.out
      rw [HW1.out]
      exact crash_end HLT hn HK.out E1.out E2.out E3.out E4.out E5.out (by omega)
  case done =>
    rintro Dd xs W hDd rfl ⟨-, -, hbd, sv', h1, h2⟩ hK
    gi_wp2
    refine ⟨by simp, .inl ⟨_, _, rfl, run_takeDeferred hK, ?_⟩⟩
    have hgr := grownBy_putObj' W Dd (.deferred none)
    exact ⟨_, results_none rfl _ _ _, rfl, _, ⟨sb, sv', h1.grown hn hgr (fun r e => by cases e; exact ⟨_, hK, rfl⟩), rfl⟩, h2.kept hgr (fun r e => by cases e; omega)⟩
  case stop =>
    rintro D c pre W _ h _
    exact h.elim

set_option maxRecDepth 100000 in
set_option maxHeartbeats 2000000 in
/-- **Crash**, of a nil disk. -/
theorem crash_nil (ad : Option Addr) (L cap : Nat) (w : World) :
    Calls Try.prog 40 #[.pointer none, .slice ad L cap] w fun e w' => e = .returned (.tuple #[]) ∧ Below w.heap.size w w' := by
  refine (callsIn_wide (n := 3)).1 ?_
  refine callsIn_of_wp_marks Try.func40 rfl trivial ?_ rfl
  simp only [Try.ntmps40, List.size_toArray, List.length_cons, List.length_nil, Nat.reduceAdd, Nat.reduceSub, Array.replicate_succ, Array.replicate_zero, List.push_toArray, List.append_toArray, List.nil_append, List.cons_append]
  gi_wp2_with (refine ⟨trivial, ?_⟩; gi_at_call 47; refine (loose_in _ _ trivial rfl _ _).mono ?_; rintro e w' ⟨rfl, rfl⟩)
  obtain ⟨W0, hW0⟩ : ∃ W0, (((w.alloc (.cells #[.slice ad L cap] 33)).alloc (.cells #[.int .i64 0] 3)).alloc (.cells #[.pointer none] 62)) = W0 := ⟨_, rfl⟩
  have bd0 : Boxed W0 (w.heap.size + 1 + 1) 62 (.pointer none) := by
    rw [← hW0]
    have := Boxed.new ((w.alloc (.cells #[.slice ad L cap] 33)).alloc (.cells #[.int .i64 0] 3)) 62 (.pointer none)
    rwa [World.size_alloc, World.size_alloc] at this
  have hB0 : Below w.heap.size w W0 := by rw [← hW0]; exact (((Below.refl _ w).alloc (Nat.le_refl _) _).alloc (by simp) _).alloc (by simp; omega) _
  have hsz0 : W0.heap.size = w.heap.size + 3 := by rw [← hW0]; simp
  rw [hW0]
  clear hW0
  refine wpIn_rangeFunc_by (n := 3) rfl (by omega) (gf := 51) (lb := #[.pointer (some ⟨w.heap.size + 1 + 1, 0, none⟩)]) rfl trivial (enters_of Try.func51 (by kernel_rfl) rfl)
    (fun pre W => Boxed W (w.heap.size + 1 + 1) 62 (.pointer none) ∧ Below w.heap.size w W)
    (fun _ _ _ => False)
    ((loose_nil_by (w.heap.size + 1 + 1) (encL 0) W0).mono fun pre W hI => hI.1)
    (Below.refl _ _) (fun _ => rfl)
    ((boxed_from _ _ (fun _ => .pointer none) _).and (ownFrom_below (Nat.le_refl _) (by omega)))
    (fun _ _ _ _ _ h _ _ => h.elim) ⟨bd0, hB0⟩ ?a1 ?assign ?body ?done ?stop
  case assign =>
    intro l x W K hK
    dsimp only [encL]
    gi_wp2
    exact hK
  case body =>
    rintro l pre x W _ h
    exact h.elim
  case done =>
    rintro Dd xs W hDd rfl ⟨hbd, hB⟩ hK
    gi_wp2
    refine ⟨by simp, .inl ⟨_, _, rfl, run_takeDeferred hK, ?_⟩⟩
    exact ⟨_, results_none rfl _ _ _, rfl, hB.trans (belowK_b (w := w) (Nat.le_refl _) W Dd _ _ (by omega) hK rfl rfl)⟩
  case stop =>
    rintro D c pre W _ h _
    exact h.elim
end Go.Proofs.Ytompbjdhdjafgaa
