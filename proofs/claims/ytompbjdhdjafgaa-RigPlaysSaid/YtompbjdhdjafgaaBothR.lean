/- The rig and the document's own one, side by side. -/
import Derived.Test.YtompbjdhdjafgaaRefRigC
import Derived.Test.YtompbjdhdjafgaaRAt
namespace Go.Proofs.Ytompbjdhdjafgaa
open Go.RowKit
set_option linter.unusedVariables false

/-- Where both are. -/
structure PP where
  rb : Nat
  p0 : Nat
  p1 : Nat
  rq : Nat
  q0 : Nat
  q1 : Nat
/-- Since w0 both have been made; they hold S and T; the blocks own are no part of them. -/
abbrev BAt (w0 W : World) (p : PP) (S T : RS) (own : Nat → Prop) : Prop := AtR (Sep (RigR p.rb p.p0 p.p1 S) (RigQ p.rq p.q0 p.q1 T)) w0 W own

theorem bothRes (p : PP) (S T : RS) : IsRes (Sep (RigR p.rb p.p0 p.p1 S) (RigQ p.rq p.q0 p.q1 T)) := (RigR.isRes _ _ _ _).sep (RigQ.isRes _ _ _ _)

section
variable {w0 W W' : World} {p : PP} {S T : RS} {own : Nat → Prop}
theorem BAt.beside (h : BAt w0 W p S T own) (hb : Below W.heap.size W W') : BAt w0 W' p S T own := AtR.beside (bothRes _ _ _) h hb
theorem BAt.below (h : BAt w0 W p S T own) (hb : Below W.heap.size W W') (own' : Nat → Prop) (ho : ∀ k, own' k → own k ∨ (W.heap.size ≤ k ∧ k < W'.heap.size)) : BAt w0 W' p S T own' := AtR.below (bothRes _ _ _) h hb own' ho
theorem BAt.first {g : FuncId} {args : Array Value} {R : Ending → World → Prop} {S' : RS} (h : BAt w0 W p S T own)
    (hc : ∀ f, RigR p.rb p.p0 p.p1 S W f → (∀ k, f k → w0.heap.size ≤ k ∧ ¬ own k) → Calls Try.prog g args W fun e w' => R e w' ∧ ∃ f', RigR p.rb p.p0 p.p1 S' w' f' ∧ Turn f f' W w') :
    Calls Try.prog g args W fun e w' => R e w' ∧ BAt w0 w' p S' T own ∧ ∀ k, own k → w'.heap[k]? = W.heap[k]? :=
  AtR.call (bothRes _ _ _) h fun f hf hk => Sep.firstC (RigR.isRes _ _ _ _) (RigQ.isRes _ _ _ _) hf fun f1 h1 hs => hc f1 h1 fun k hk1 => hk k (hs k hk1)
theorem BAt.second {g : FuncId} {args : Array Value} {R : Ending → World → Prop} {T' : RS} (h : BAt w0 W p S T own)
    (hc : ∀ f, RigQ p.rq p.q0 p.q1 T W f → (∀ k, f k → w0.heap.size ≤ k ∧ ¬ own k) → Calls Try.prog g args W fun e w' => R e w' ∧ ∃ f', RigQ p.rq p.q0 p.q1 T' w' f' ∧ Turn f f' W w') :
    Calls Try.prog g args W fun e w' => R e w' ∧ BAt w0 w' p S T' own ∧ ∀ k, own k → w'.heap[k]? = W.heap[k]? :=
  AtR.call (bothRes _ _ _) h fun f hf hk => Sep.secondC (RigR.isRes _ _ _ _) (RigQ.isRes _ _ _ _) hf fun f1 h1 hs => hc f1 h1 fun k hk1 => hk k (hs k hk1)
theorem BAt.rig (h : BAt w0 W p S T own) : ∃ f, RigR p.rb p.p0 p.p1 S W f := by obtain ⟨f, ⟨f1, f2, h1, h2, _⟩, _⟩ := h; exact ⟨f1, h1⟩
theorem BAt.ref (h : BAt w0 W p S T own) : ∃ f, RigQ p.rq p.q0 p.q1 T W f := by obtain ⟨f, ⟨f1, f2, h1, h2, _⟩, _⟩ := h; exact ⟨f2, h2⟩

theorem BAt.write (h : BAt w0 W p S T own) (hS : S.Fit) (hm : S.Few 255) (dev i : Int) {b : List Value} (hb : IsBlk b) :
    Calls Try.prog 12 #[.pointer (some ⟨p.rb, 0, none⟩), .int .i64 dev, .int .i64 i, .agg b.toArray] W fun e w' => e = .returned (.int .i64 (S.writeE dev i)) ∧ BAt w0 w' p (S.write dev i b) T own ∧ ∀ k, own k → w'.heap[k]? = W.heap[k]? :=
  BAt.first (R := fun e _ => e = .returned (.int .i64 (S.writeE dev i))) h fun f hf _ => hf.write hS hm dev i hb
theorem BAt.write2 (h : BAt w0 W p S T own) (hS : T.Fit) (hm : T.Few 255) (dev i : Int) {b : List Value} (hb : IsBlk b) :
    Calls Try.prog 14 #[.pointer (some ⟨p.rq, 0, none⟩), .int .i64 dev, .int .i64 i, .agg b.toArray] W fun e w' => e = .returned (.int .i64 (T.writeE dev i)) ∧ BAt w0 w' p S (T.write dev i b) own ∧ ∀ k, own k → w'.heap[k]? = W.heap[k]? :=
  BAt.second (R := fun e _ => e = .returned (.int .i64 (T.writeE dev i))) h fun f hf _ => hf.write hS hm dev i hb
theorem BAt.flush (h : BAt w0 W p S T own) (hS : S.Fit) (dev : Int) :
    Calls Try.prog 17 #[.pointer (some ⟨p.rb, 0, none⟩), .int .i64 dev] W fun e w' => e = .returned (.int .i64 (S.flushE dev)) ∧ BAt w0 w' p (S.flush dev) T own ∧ ∀ k, own k → w'.heap[k]? = W.heap[k]? :=
  BAt.first (R := fun e _ => e = .returned (.int .i64 (S.flushE dev))) h fun f hf _ => hf.flush hS dev
theorem BAt.flush2 (h : BAt w0 W p S T own) (hS : T.Fit) (dev : Int) :
    Calls Try.prog 18 #[.pointer (some ⟨p.rq, 0, none⟩), .int .i64 dev] W fun e w' => e = .returned (.int .i64 (T.flushE dev)) ∧ BAt w0 w' p S (T.flush dev) own ∧ ∀ k, own k → w'.heap[k]? = W.heap[k]? :=
  BAt.second (R := fun e _ => e = .returned (.int .i64 (T.flushE dev))) h fun f hf _ => hf.flush hS dev
theorem BAt.arm (h : BAt w0 W p S T own) (n : Int) :
    Calls Try.prog 21 #[.pointer (some ⟨p.rb, 0, none⟩), .int .i64 n] W fun e w' => e = .returned (.tuple #[]) ∧ BAt w0 w' p { S with fuse := n } T own ∧ ∀ k, own k → w'.heap[k]? = W.heap[k]? :=
  BAt.first (R := fun e _ => e = .returned (.tuple #[])) h fun f hf _ => hf.arm n
theorem BAt.crash {v0 v1 : Value} {b0 b1 : List Int} (h : BAt w0 W p S T own) (hv0 : Sl .u8 W v0 b0) (hv1 : Sl .u8 W v1 b1) (hB0 : IsBytes b0) (hB1 : IsBytes b1)
    (hc0 : b0 ≠ [] → ∀ b off len cap, v0 = .slice (some ⟨b, off, none⟩) len cap → b < w0.heap.size ∨ own b) (hc1 : b1 ≠ [] → ∀ b off len cap, v1 = .slice (some ⟨b, off, none⟩) len cap → b < w0.heap.size ∨ own b) (hm : S.Few 1000000) :
    Calls Try.prog 19 #[.pointer (some ⟨p.rb, 0, none⟩), v0, v1] W fun e w' => e = .returned (.tuple #[]) ∧ BAt w0 w' p (S.crash b0 b1) T own ∧ ∀ k, own k → w'.heap[k]? = W.heap[k]? :=
  BAt.first (R := fun e _ => e = .returned (.tuple #[])) h fun f hf hk => by
    refine hf.crash hv0 hv1 hB0 hB1 (fun hn b off len cap e hfb => ?_) (fun hn b off len cap e hfb => ?_) hm
    · rcases hc0 hn b off len cap e with h' | h'
      · have := (hk b hfb).1; omega
      · exact (hk b hfb).2 h'
    · rcases hc1 hn b off len cap e with h' | h'
      · have := (hk b hfb).1; omega
      · exact (hk b hfb).2 h'
theorem BAt.crash2 {v0 v1 : Value} {b0 b1 : List Int} (h : BAt w0 W p S T own) (hv0 : Sl .u8 W v0 b0) (hv1 : Sl .u8 W v1 b1) (hB0 : IsBytes b0) (hB1 : IsBytes b1)
    (hc0 : b0 ≠ [] → ∀ b off len cap, v0 = .slice (some ⟨b, off, none⟩) len cap → b < w0.heap.size ∨ own b) (hc1 : b1 ≠ [] → ∀ b off len cap, v1 = .slice (some ⟨b, off, none⟩) len cap → b < w0.heap.size ∨ own b) (hm : T.Few 1000000) :
    Calls Try.prog 20 #[.pointer (some ⟨p.rq, 0, none⟩), v0, v1] W fun e w' => e = .returned (.tuple #[]) ∧ BAt w0 w' p S (T.crash b0 b1) own ∧ ∀ k, own k → w'.heap[k]? = W.heap[k]? :=
  BAt.second (R := fun e _ => e = .returned (.tuple #[])) h fun f hf hk => by
    refine hf.crash hv0 hv1 hB0 hB1 (fun hn b off len cap e hfb => ?_) (fun hn b off len cap e hfb => ?_) hm
    · rcases hc0 hn b off len cap e with h' | h'
      · have := (hk b hfb).1; omega
      · exact (hk b hfb).2 h'
    · rcases hc1 hn b off len cap e with h' | h'
      · have := (hk b hfb).1; omega
      · exact (hk b hfb).2 h'
theorem BAt.read (h : BAt w0 W p S T own) (dev i : Int) :
    Calls Try.prog 15 #[.pointer (some ⟨p.rb, 0, none⟩), .int .i64 dev, .int .i64 i] W fun e w' => e = .returned (.tuple #[.agg (S.read dev i).toArray, .int .i64 (S.readE dev i)]) ∧ Below W.heap.size W w' := by
  obtain ⟨f, hf⟩ := h.rig; exact hf.read dev i
theorem BAt.read2 (h : BAt w0 W p S T own) (dev i : Int) :
    Calls Try.prog 16 #[.pointer (some ⟨p.rq, 0, none⟩), .int .i64 dev, .int .i64 i] W fun e w' => e = .returned (.tuple #[.agg (T.read dev i).toArray, .int .i64 (T.readE dev i)]) ∧ Below W.heap.size W w' := by
  obtain ⟨f, hf⟩ := h.ref; exact hf.read dev i
theorem BAt.len (h : BAt w0 W p S T own) (dev : Int) :
    Calls Try.prog 24 #[.pointer (some ⟨p.rb, 0, none⟩), .int .i64 dev] W fun e w' => e = .returned (.int .i64 (S.len dev : Int)) ∧ Below W.heap.size W w' := by
  obtain ⟨f, hf⟩ := h.rig; exact hf.len dev
theorem BAt.done (h : BAt w0 W p S T own) :
    Calls Try.prog 23 #[.pointer (some ⟨p.rb, 0, none⟩)] W fun e w' => e = .returned (.int .i64 S.done) ∧ w' = W := by
  obtain ⟨f, hf⟩ := h.rig; exact hf.done
theorem BAt.isDown (h : BAt w0 W p S T own) :
    Calls Try.prog 22 #[.pointer (some ⟨p.rb, 0, none⟩)] W fun e w' => e = .returned (.bool S.down) ∧ w' = W := by
  obtain ⟨f, hf⟩ := h.rig; exact hf.isDown
theorem BAt.okRead (h : BAt w0 W p S T own) (dev i : Int) : IsBlk (S.read dev i) := by
  obtain ⟨f, h1⟩ := h.rig
  unfold RS.read
  split
  · next hh => exact h1.okLook hh.1
  · exact isBlk_fill 0
/-- What the document's own one says of itself. -/
theorem BAt.cell (h : BAt w0 W p S T own) (j : Nat) : W.cell? ⟨p.rq, j, none⟩ = (T.head p.q0 p.q1)[j]? := by
  obtain ⟨f, hf⟩ := h.ref; exact Sep.cell hf j
theorem BAt.frozen (h : BAt w0 W p S T own) (j : Nat) : W.frozen? ⟨p.rq, j, none⟩ = false := by
  obtain ⟨f, hf⟩ := h.ref; exact Sep.frozen hf j
theorem BAt.rq_lt (h : BAt w0 W p S T own) : p.rq < W.heap.size := by obtain ⟨f, hf⟩ := h.ref; exact hf.rq_lt
theorem BAt.disk0 (h : BAt w0 W p S T own) : ∃ ss, W.cell? ⟨p.q0, 0, none⟩ = some (.slice (some ⟨ss, 0, none⟩) T.n0 T.n0) ∧ p.q0 < W.heap.size ∧ ss < W.heap.size ∧ ∀ i, i < T.n0 → W.rangeAt ss (i * 64) (T.D0 i).c ∧ IsBlk (T.D0 i).c := by
  obtain ⟨f, hf⟩ := h.ref
  obtain ⟨g, ⟨ss, vb, sv, h1, rfl⟩, h2⟩ := hf.d0
  exact ⟨ss, by rw [cell_of_row _ _ _ _ _ _ h1.head]; rfl, h1.lt h2 (.inl rfl), h1.lt h2 (.inr (.inl rfl)), fun i hi => ⟨h1.cont i hi, (h1.ok i hi).1⟩⟩
theorem BAt.disk1 (h : BAt w0 W p S T own) : ∃ ss, W.cell? ⟨p.q1, 0, none⟩ = some (.slice (some ⟨ss, 0, none⟩) T.n1 T.n1) ∧ p.q1 < W.heap.size ∧ ss < W.heap.size ∧ ∀ i, i < T.n1 → W.rangeAt ss (i * 64) (T.D1 i).c ∧ IsBlk (T.D1 i).c := by
  obtain ⟨f, hf⟩ := h.ref
  obtain ⟨g, ⟨ss, vb, sv, h1, rfl⟩, h2⟩ := hf.d1
  exact ⟨ss, by rw [cell_of_row _ _ _ _ _ _ h1.head]; rfl, h1.lt h2 (.inl rfl), h1.lt h2 (.inr (.inl rfl)), fun i hi => ⟨h1.cont i hi, (h1.ok i hi).1⟩⟩
/-- Its fuse is set. -/
theorem BAt.fuse2 (h : BAt w0 W p S T own) (n : Int) : BAt w0 (W.setCell ⟨p.rq, 2, none⟩ (.int .i64 n)) p S { T with fuse := n } own ∧ ∀ k, own k → (W.setCell ⟨p.rq, 2, none⟩ (.int .i64 n)).heap[k]? = W.heap[k]? := by
  obtain ⟨f, ⟨f1, f2, h1, h2, h3, rfl⟩, g2, g3, g4⟩ := h
  obtain ⟨a1, a2⟩ := Sep.set (T.disks2_isRes p.q0 p.q1) h2 2 (.int .i64 n)
  have a1' : RigQ p.rq p.q0 p.q1 { T with fuse := n } (W.setCell ⟨p.rq, 2, none⟩ (.int .i64 n)) f2 := a1
  obtain ⟨f', b1, b2⟩ := Turn.first (RigQ.isRes _ _ _ _) (RigR.isRes _ _ _ _) h2 h1 (fun k a b => h3 k b a) ⟨f2, a1', a2⟩
  have hsw : (fun k => f2 k ∨ f1 k) = fun k => f1 k ∨ f2 k := by funext k; exact propext or_comm
  rw [hsw] at b2
  exact AtR.turned (bothRes _ _ _) g2 g3 g4 ⟨f', b1.swap, b2⟩
/-- Both made. -/
theorem BAt.new (n0 n1 : Nat) (w0 w w1 : World) (rb p0 p1 rq q0 q1 : Nat) (h1 : RAt w0 w rb p0 p1 (newS n0 n1) (fun _ => False)) (h : ∃ f, RigQ rq q0 q1 (newS n0 n1) w1 f ∧ ∀ k, f k → w.heap.size ≤ k) (hb : Below w.heap.size w w1) :
    BAt w0 w1 ⟨rb, p0, p1, rq, q0, q1⟩ (newS n0 n1) (newS n0 n1) (fun _ => False) := by
  obtain ⟨f, g1, g2⟩ := h
  obtain ⟨f1, a1, a2, a3, a4⟩ := h1
  have hlt := (RigR.isRes rb p0 p1 (newS n0 n1)).lt a1
  refine ⟨fun k => f1 k ∨ f k, ⟨f1, f, (RigR.isRes _ _ _ _).below a1 hb, g1, fun k x y => ?_, rfl⟩, fun k hk => ⟨?_, fun h => h⟩, fun _ h => h.elim, a4.trans (hb.mono a4.size)⟩
  · have := hlt k x; have := g2 k y; omega
  · rcases hk with hk | hk
    · exact (a2 k hk).1
    · exact Nat.le_trans a4.size (g2 k hk)
end

/-- A world in which block B is as in W. -/
def Keep (B : Nat) (W : World) : Type := {x : World // x.heap[B]? = W.heap[B]?}
instance (B : Nat) (W : World) : Nonempty (Keep B W) := ⟨⟨W, rfl⟩⟩
end Go.Proofs.Ytompbjdhdjafgaa
