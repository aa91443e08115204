/- The steps that come in; fair. -/
import Derived.LoopTactic
import Derived.Test.YtompbjdhdjafgaaArgSl
import Derived.Test.YtompbjdhdjafgaaState
namespace Go.Proofs.Ytompbjdhdjafgaa
open Go.ChangeShapes Go.WideShapes Go.ChangeAt Go.RowKit
set_option linter.unusedVariables false

/-- A step. -/
structure St where
  kind : Int
  dev : Int
  i : Int
  v : Int
  p0 : Option Addr
  cap0 : Nat
  b0 : List Int
  p1 : Option Addr
  cap1 : Nat
  b1 : List Int

/-- Its slices of picks. -/
def St.pick0 (s : St) : Value := .slice s.p0 s.b0.length s.cap0
def St.pick1 (s : St) : Value := .slice s.p1 s.b1.length s.cap1
/-- The step at a place. -/
structure StAt (W : World) (b o : Nat) (s : St) : Prop where
  c0 : W.cell? ⟨b, o, none⟩ = some (.int .i64 s.kind)
  c1 : W.cell? ⟨b, o + 1, none⟩ = some (.int .i64 s.dev)
  c2 : W.cell? ⟨b, o + 2, none⟩ = some (.int .i64 s.i)
  c3 : W.cell? ⟨b, o + 3, none⟩ = some (.int .u8 s.v)
  c4 : W.cell? ⟨b, o + 4, none⟩ = some s.pick0
  c5 : W.cell? ⟨b, o + 5, none⟩ = some s.pick1
structure St.Ok (W : World) (s : St) : Prop where
  pick0 : Sl .u8 W s.pick0 s.b0
  pick1 : Sl .u8 W s.pick1 s.b1
  bytes0 : IsBytes s.b0
  bytes1 : IsBytes s.b1
  i0 : -9223372036854775808 ≤ s.i
  i1 : s.i ≤ 9223372036854775807
  v0 : 0 ≤ s.v
  v1 : s.v < 256
/-- Steps, one behind the other. -/
def Steps (W : World) (v : Value) (l : List St) : Prop := ∃ a cap, v = .slice a l.length cap ∧ l.length ≤ cap ∧ cap ≤ maxLen ∧ (∀ s ∈ l, s.Ok W) ∧ (l = [] ∨ ∃ b off, a = some ⟨b, off, none⟩ ∧ b < W.heap.size ∧ ∀ j s, l[j]? = some s → StAt W b (off + j * 6) s)

theorem StAt.below {W W' : World} {b o : Nat} {s : St} (h : StAt W b o s) (hb : b < W.heap.size) (hB : Below W.heap.size W W') : StAt W' b o s :=
  ⟨(hB.cell (p := ⟨b, o, none⟩) hb).trans h.c0, (hB.cell (p := ⟨b, o + 1, none⟩) hb).trans h.c1, (hB.cell (p := ⟨b, o + 2, none⟩) hb).trans h.c2, (hB.cell (p := ⟨b, o + 3, none⟩) hb).trans h.c3, (hB.cell (p := ⟨b, o + 4, none⟩) hb).trans h.c4, (hB.cell (p := ⟨b, o + 5, none⟩) hb).trans h.c5⟩
theorem St.Ok.below {W W' : World} {s : St} (h : s.Ok W) (hB : Below W.heap.size W W') : s.Ok W' := ⟨h.pick0.below hB, h.pick1.below hB, h.bytes0, h.bytes1, h.i0, h.i1, h.v0, h.v1⟩
theorem Steps.below {W W' : World} {v : Value} {l : List St} (h : Steps W v l) (hB : Below W.heap.size W W') : Steps W' v l := by
  obtain ⟨a, cap, rfl, h1, h2, h3, h4⟩ := h
  refine ⟨a, cap, rfl, h1, h2, fun s hs => (h3 s hs).below hB, ?_⟩
  rcases h4 with h4 | ⟨b, off, rfl, h5, h6⟩
  · exact .inl h4
  · exact .inr ⟨b, off, rfl, Nat.lt_of_lt_of_le h5 hB.size, fun j s hj => (h6 j s hj).below h5 hB⟩

theorem under_step : ∃ fs, Try.prog.underlying 35 = some (.struct fs) ∧ (fs[0]?).map (fun f => (f.offset, f.type)) = some (0, 3) ∧ (fs[1]?).map (fun f => (f.offset, f.type)) = some (1, 3) ∧ (fs[2]?).map (fun f => (f.offset, f.type)) = some (2, 3) ∧ (fs[3]?).map (fun f => (f.offset, f.type)) = some (3, 5) ∧ (fs[4]?).map (fun f => (f.offset, f.type)) = some (4, 33) ∧ (fs[5]?).map (fun f => (f.offset, f.type)) = some (5, 33) :=
  ⟨_, Try.underlying35, rfl, rfl, rfl, rfl, rfl, rfl⟩

def St.cells (s : St) : List Value := [.int .i64 s.kind, .int .i64 s.dev, .int .i64 s.i, .int .u8 s.v, s.pick0, s.pick1]
/-- Six cells that read as a step. -/
theorem step_of_cells {W : World} {cs : List Value} (h : Cells W 35 cs) : ∃ s : St, s.Ok W ∧ cs = s.cells := by
  obtain ⟨fs, hu, f0, f1, f2, f3, f4, f5⟩ := under_step
  obtain ⟨hl, hf⟩ := h.struct hu
  rw [show Try.prog.cellsOf 35 = 6 from by kernel_rfl] at hl
  have field : ∀ (j o : Nat) t, (fs[j]?).map (fun f => (f.offset, f.type)) = some (o, t) → Cells W t ((cs.drop o).take (Try.prog.cellsOf t)) := by
    intro j o t hj
    obtain ⟨f, hf1, hf2⟩ := Option.map_eq_some_iff.1 hj
    cases hf2
    exact hf j f hf1
  obtain ⟨x0, x1, x2, x3, x4, x5, rfl⟩ : ∃ x0 x1 x2 x3 x4 x5, cs = [x0, x1, x2, x3, x4, x5] := by
    match cs, hl with
    | [x0, x1, x2, x3, x4, x5], _ => exact ⟨x0, x1, x2, x3, x4, x5, rfl⟩
  · have g0 := field 0 0 _ f0
    have g1 := field 1 1 _ f1
    have g2 := field 2 2 _ f2
    have g3 := field 3 3 _ f3
    have g4 := field 4 4 _ f4
    have g5 := field 5 5 _ f5
    rw [show Try.prog.cellsOf 3 = 1 from by kernel_rfl] at g0 g1 g2
    rw [show Try.prog.cellsOf 5 = 1 from by kernel_rfl] at g3
    rw [show Try.prog.cellsOf 33 = 1 from by kernel_rfl] at g4 g5
    obtain ⟨n0, e0, w0⟩ := g0.int Try.underlying3
    obtain ⟨n1, e1, w1⟩ := g1.int Try.underlying3
    obtain ⟨n2, e2, w2⟩ := g2.int Try.underlying3
    obtain ⟨n3, e3, w3⟩ := g3.int Try.underlying5
    obtain ⟨a, len, cap, xs, e4, hx, hm, hs, hw⟩ := g4.bytes Try.underlying33 Try.underlying5 (by kernel_rfl)
    obtain ⟨a', len', cap', xs', e5, hx', hm', hs', hw'⟩ := g5.bytes Try.underlying33 Try.underlying5 (by kernel_rfl)
    simp at e0 e1 e2 e3 e4 e5
    subst e0 e1 e2 e3 e4 e5 hx hx'
    have b2 := bounds_i64 w2
    have b3 := bounds_u8 w3
    exact ⟨⟨n0, n1, n2, n3, a, cap, xs, a', cap', xs'⟩, ⟨hs, hs', hw, hw', b2.1, b2.2, b3.1, (by show n3 < 256; omega)⟩, rfl⟩

/-- Steps that came in. -/
theorem Arg.steps {W : World} {v : Value} (h : Arg W 23 v) : ∃ l, Steps W v l := by
  obtain ⟨a, len, cap, rfl, r⟩ := h.slice Try.underlying23
  rcases r with ⟨rfl, rfl, rfl⟩ | ⟨x, rfl, h1, h2, h3⟩
  · exact ⟨[], none, 0, rfl, Nat.le_refl _, Nat.zero_le _, (fun s hs => by cases hs), .inl rfl⟩
  · rw [show Try.prog.cellsOf 35 = 6 from by kernel_rfl] at h3
    have h4 : ∀ i, i < cap → ∃ s : St, s.Ok W ∧ ∀ j v, s.cells[j]? = some v → j < 6 → W.cell? ((x.add (i * 6)).add j) = some v := by
      intro i hi
      obtain ⟨es, g1, g2⟩ := h3 i hi
      obtain ⟨s, hs, rfl⟩ := step_of_cells g2
      have hm := (cells_many g1).2
      exact ⟨s, hs, fun j v hj hj6 => by
        obtain ⟨u, hu1, hu2⟩ := hm j hj6
        rw [hj] at hu1
        cases hu1
        exact hu2⟩
    have h5 : ∀ i, ∃ s : St, i < cap → s.Ok W ∧ ∀ j v, s.cells[j]? = some v → j < 6 → W.cell? ((x.add (i * 6)).add j) = some v := fun i => by
      by_cases hi : i < cap
      · obtain ⟨s, hs⟩ := h4 i hi; exact ⟨s, fun _ => hs⟩
      · exact ⟨⟨0, 0, 0, 0, none, 0, [], none, 0, []⟩, fun h => absurd h hi⟩
    obtain ⟨f, hf⟩ := Classical.axiomOfChoice h5
    refine ⟨(List.range len).map f, some x, cap, by simp, by simp; omega, h2, fun s hs => ?_, ?_⟩
    · obtain ⟨i, hi, rfl⟩ := List.mem_map.1 hs
      exact (hf i (by have := List.mem_range.1 hi; omega)).1
    · by_cases h0 : len = 0
      · subst h0; exact .inl rfl
      · have hc0 := (hf 0 (by omega)).2 0 _ rfl (by omega)
        rw [Nat.zero_mul, show (x.add 0).add 0 = x by simp [Addr.add]] at hc0
        obtain ⟨b, off, rfl, hb⟩ := cell_plain hc0
        refine .inr ⟨b, off, rfl, hb, fun j s hj => ?_⟩
        have hjl : j < len := by have := (List.getElem?_eq_some_iff.1 hj).1; simpa using this
        have hs : s = f j := by rw [List.getElem?_map] at hj; simp [hjl] at hj; exact hj.symm
        subst hs
        have q := (hf j (by omega)).2
        simp only [add_plain] at q
        exact ⟨q 0 _ rfl (by omega), q 1 _ rfl (by omega), q 2 _ rfl (by omega), q 3 _ rfl (by omega), q 4 _ rfl (by omega), q 5 _ rfl (by omega)⟩
theorem Arg.step {W : World} {v : Value} (h : Arg W 35 v) : ∃ s : St, s.Ok W ∧ v = .agg #[.int .i64 s.kind, .int .i64 s.dev, .int .i64 s.i, .int .u8 s.v, s.pick0, s.pick1] := by
  obtain ⟨fs, hu, _⟩ := under_step
  obtain ⟨cs, rfl, _, hc⟩ := h.agg (.inl ⟨fs, hu⟩)
  obtain ⟨s, hs, rfl⟩ := step_of_cells hc
  exact ⟨s, hs, rfl⟩

/-- A step of those that came in, wherever one stands. -/
theorem Steps.open {w : World} {a : Option Addr} {L cap : Nat} {l : List St} (h : Steps w (.slice a L cap) l) (hL : l.length = L) {k : Nat} {s : St} (hs : l[k]? = some s) :
    ∃ b off, a = some ⟨b, off, none⟩ ∧ s.Ok w ∧ b < w.heap.size ∧ StAt w b (off + k * 6) s := by
  obtain ⟨a', cap', e, _, _, h3, h4⟩ := h
  simp only [Value.slice.injEq] at e
  obtain ⟨rfl, _, rfl⟩ := e
  rcases h4 with e | ⟨b, off, rfl, h5, h6⟩
  · rw [e] at hs; simp at hs
  · exact ⟨b, off, rfl, h3 s (List.mem_of_getElem? hs), h5, h6 k s hs⟩

/-- Few enough, and none too long. -/
def fairB (l : List St) : Bool := (l.all fun s => decide (s.b0.length ≤ 300) && decide (s.b1.length ≤ 300)) && decide (l.length ≤ 200)

theorem fairB_not {l : List St} {s : St} (hs : s ∈ l) (h : 300 < s.b0.length ∨ 300 < s.b1.length) : fairB l = false := by
  unfold fairB
  rw [Bool.and_eq_false_iff]
  left
  cases e : l.all fun s => decide (s.b0.length ≤ 300) && decide (s.b1.length ≤ 300) with
  | false => rfl
  | true =>
    have := List.all_eq_true.1 e s hs
    simp at this
    omega
theorem fairB_yes {l : List St} (h : fairB l = true) : l.length ≤ 200 ∧ ∀ s ∈ l, s.b0.length ≤ 300 ∧ s.b1.length ≤ 300 := by
  unfold fairB at h
  rw [Bool.and_eq_true, decide_eq_true_eq, List.all_eq_true] at h
  exact ⟨h.2, fun s hs => by have := h.1 s hs; simpa using this⟩

set_option maxRecDepth 100000 in
set_option maxHeartbeats 2000000 in
/-- **fair**. -/
theorem fair_any (v : Value) (l : List St) (w : World) (h : Steps w v l) : Calls Try.prog 8 #[v] w fun e w' => e = .returned (.bool (fairB l)) ∧ w' = w := by
  obtain ⟨a, cap, rfl, h1, h2, h3, h4⟩ := h
  obtain ⟨n, hn⟩ : ∃ n, l.length = n := ⟨_, rfl⟩
  have HN := Lib.hid hn
  rw [hn] at h1 ⊢
  have HM : Hid (n ≤ maxLen) := Nat.le_trans h1 h2
  have H4 := Lib.hid h4
  clear h1 h2 h3 h4 hn
  go_enter Try.func8, Try.ntmps8
  go_wp2
  go_loop [3] (fun i => ∃ k : Nat, k ≤ n ∧ i = .int .i64 k ∧ Hid (∀ j s, j < k → l[j]? = some s → s.b0.length ≤ 300 ∧ s.b1.length ≤ 300)) (fun i => n - (intOf i).toNat)
  case atStart => exact ⟨0, Nat.zero_le _, rfl, fun j s hj => by omega⟩
  case round =>
    obtain ⟨k, hk, rfl, HP⟩ := hrel
    by_cases hlt : k < n
    · obtain ⟨s, hs⟩ : ∃ s, l[k]? = some s := ⟨_, List.getElem?_eq_getElem (by rw [HN.out]; exact hlt)⟩
      obtain ⟨b, off, rfl, c4, c5⟩ : ∃ b off, a = some ⟨b, off, none⟩ ∧ w.cell? ⟨b, off + k * 6 + 4, none⟩ = some (.slice s.p0 s.b0.length s.cap0) ∧ w.cell? ⟨b, off + k * 6 + 5, none⟩ = some (.slice s.p1 s.b1.length s.cap1) := by
        rcases H4.out with e | ⟨b, off, rfl, h5, h6⟩
        · have := HN.out; rw [e] at this; simp at this; omega
        · exact ⟨b, off, rfl, (h6 k s hs).c4, (h6 k s hs).c5⟩
      have g1 : (k : Int) < (n : Int) := by omega
      have HLT := Lib.hid hlt
      have HS := Lib.hid hs
      have HW : Hid (wrap64 ((k : Int) + 1) = (k : Int) + 1) := IntWalk.wrap64_in _ (by have := HM.out; unfold maxLen at this; omega)
      clear hlt hk hs
      by_cases hbig : 300 < s.b0.length
      · have g2 : decide ((300 : Int) < (s.b0.length : Int)) = true := by simp; omega
        have HE : Hid (fairB l = false) := fairB_not (List.mem_of_getElem? HS.out) (.inl hbig)
        clear hbig
        go_wp2
        go_ret
        exact ⟨by rw [HE.out]; rfl, rfl⟩
      · have g2 : decide ((300 : Int) < (s.b0.length : Int)) = false := by simp; omega
        have HB : Hid (s.b0.length ≤ 300) := by show _ ≤ _; omega
        clear hbig
        by_cases hbig : 300 < s.b1.length
        · have g3 : (300 : Int) < (s.b1.length : Int) := by omega
          have HE : Hid (fairB l = false) := fairB_not (List.mem_of_getElem? HS.out) (.inr hbig)
          clear hbig
          go_wp2
          go_ret
          exact ⟨by rw [HE.out]; rfl, rfl⟩
        · have g3 : ¬ (300 : Int) < (s.b1.length : Int) := by omega
          have HB1 : Hid (s.b1.length ≤ 300) := by show _ ≤ _; omega
          clear hbig
          go_wp2
          refine ⟨next_rel (C := fun k' => Hid (∀ (j : Nat) (s : St), j < k' → l[j]? = some s → s.b0.length ≤ 300 ∧ s.b1.length ≤ 300)) HW.out HLT.out (fun j s' hj hs' => ?_), next_lt HW.out HLT.out⟩
          by_cases e : j < k
          · exact HP.out j s' e hs'
          · obtain rfl : j = k := by omega
            rw [HS.out] at hs'
            cases hs'
            exact ⟨HB.out, HB1.out⟩
    · obtain rfl : k = n := by omega
      have HE : Hid (decide ((k : Int) ≤ 200) = fairB l) := by
        show _ = _
        unfold fairB
        have e : (l.all fun s => decide (s.b0.length ≤ 300) && decide (s.b1.length ≤ 300)) = true := by
          rw [List.all_eq_true]
          intro s hs
          obtain ⟨j, hj, rfl⟩ := List.getElem_of_mem hs
          simpa using HP.out j _ (by have := HN.out; omega) (List.getElem?_eq_getElem hj)
        rw [e, Bool.true_and, HN.out]
        simp
        omega
      go_wp2
      go_ret
      exact ⟨by rw [← HE.out]; rfl, rfl⟩
end Go.Proofs.Ytompbjdhdjafgaa
