/- A rig that a statement has made, and what else it has made. -/
import Derived.Test.YtompbjdhdjafgaaRigCr
import Derived.Test.YtompbjdhdjafgaaFill
namespace Go.Proofs.Ytompbjdhdjafgaa
open Go.RowKit
set_option linter.unusedVariables false

/-- Since w0 a rig has been made, which holds S; the blocks own are no part of it. -/
abbrev RAt (w0 W : World) (rb p0 p1 : Nat) (S : RS) (own : Nat → Prop) : Prop := AtR (RigR rb p0 p1 S) w0 W own

theorem RS.fit {S : RS} (h1 : S.fuse ≤ 9223372036854775807) (h2 : 0 ≤ S.done) (h3 : S.done ≤ 1000000) : S.Fit := ⟨fun h => IntWalk.wrap64_in _ (by omega), IntWalk.wrap64_in _ (by omega)⟩

section
variable {w0 W W' : World} {rb p0 p1 : Nat} {S : RS} {own : Nat → Prop}
theorem RAt.beside (h : RAt w0 W rb p0 p1 S own) (hb : Below W.heap.size W W') : RAt w0 W' rb p0 p1 S own := AtR.beside (RigR.isRes _ _ _ _) h hb
theorem RAt.below (h : RAt w0 W rb p0 p1 S own) (hb : Below W.heap.size W W') (own' : Nat → Prop) (ho : ∀ k, own' k → own k ∨ (W.heap.size ≤ k ∧ k < W'.heap.size)) : RAt w0 W' rb p0 p1 S own' := AtR.below (RigR.isRes _ _ _ _) h hb own' ho
theorem RAt.new (n0 n1 : Nat) (w0 w : World) (hb : Below w0.heap.size w0 w) (h01 : 1 ≤ n0) (h02 : n0 ≤ 4096) (h11 : 1 ≤ n1) (h12 : n1 ≤ 4096) (own : Nat → Prop) (ho : ∀ k, own k → k < w.heap.size) :
    Calls Try.prog 10 #[.int .i64 (n0 : Int), .int .i64 (n1 : Int)] w fun e w' => ∃ rb p0 p1, e = .returned (.tuple #[.pointer (some ⟨rb, 0, none⟩), .int .i64 0]) ∧ RAt w0 w' rb p0 p1 (newS n0 n1) own ∧ Below w.heap.size w w' := by
  refine (rigNew_yes n0 n1 w h01 h02 h11 h12).mono ?_
  rintro e w' ⟨rb, p0, p1, rfl, ⟨f, g1, g2⟩, g3⟩
  exact ⟨rb, p0, p1, rfl, ⟨f, g1, fun k hk => ⟨Nat.le_trans hb.size (g2 k hk), fun h => by have := ho k h; have := g2 k hk; omega⟩, fun k hk => Nat.lt_of_lt_of_le (ho k hk) g3.size, hb.trans (g3.mono hb.size)⟩, g3⟩
theorem RAt.write (h : RAt w0 W rb p0 p1 S own) (hS : S.Fit) (hm : S.Few 255) (dev i : Int) {b : List Value} (hb : IsBlk b) :
    Calls Try.prog 12 #[.pointer (some ⟨rb, 0, none⟩), .int .i64 dev, .int .i64 i, .agg b.toArray] W fun e w' => e = .returned (.int .i64 (S.writeE dev i)) ∧ RAt w0 w' rb p0 p1 (S.write dev i b) own ∧ ∀ k, own k → w'.heap[k]? = W.heap[k]? :=
  AtR.call (R := fun e _ => e = .returned (.int .i64 (S.writeE dev i))) (RigR.isRes _ _ _ _) h fun f hf _ => hf.write hS hm dev i hb
theorem RAt.flush (h : RAt w0 W rb p0 p1 S own) (hS : S.Fit) (dev : Int) :
    Calls Try.prog 17 #[.pointer (some ⟨rb, 0, none⟩), .int .i64 dev] W fun e w' => e = .returned (.int .i64 (S.flushE dev)) ∧ RAt w0 w' rb p0 p1 (S.flush dev) own ∧ ∀ k, own k → w'.heap[k]? = W.heap[k]? :=
  AtR.call (R := fun e _ => e = .returned (.int .i64 (S.flushE dev))) (RigR.isRes _ _ _ _) h fun f hf _ => hf.flush hS dev
theorem RAt.arm (h : RAt w0 W rb p0 p1 S own) (n : Int) :
    Calls Try.prog 21 #[.pointer (some ⟨rb, 0, none⟩), .int .i64 n] W fun e w' => e = .returned (.tuple #[]) ∧ RAt w0 w' rb p0 p1 { S with fuse := n } own ∧ ∀ k, own k → w'.heap[k]? = W.heap[k]? :=
  AtR.call (R := fun e _ => e = .returned (.tuple #[])) (RigR.isRes _ _ _ _) h fun f hf _ => hf.arm n
theorem RAt.read (h : RAt w0 W rb p0 p1 S own) (dev i : Int) :
    Calls Try.prog 15 #[.pointer (some ⟨rb, 0, none⟩), .int .i64 dev, .int .i64 i] W fun e w' => e = .returned (.tuple #[.agg (S.read dev i).toArray, .int .i64 (S.readE dev i)]) ∧ Below W.heap.size W w' :=
  AtR.look h fun f hf => hf.read dev i
theorem RAt.len (h : RAt w0 W rb p0 p1 S own) (dev : Int) :
    Calls Try.prog 24 #[.pointer (some ⟨rb, 0, none⟩), .int .i64 dev] W fun e w' => e = .returned (.int .i64 (S.len dev : Int)) ∧ Below W.heap.size W w' :=
  AtR.look h fun f hf => hf.len dev
theorem RAt.done (h : RAt w0 W rb p0 p1 S own) :
    Calls Try.prog 23 #[.pointer (some ⟨rb, 0, none⟩)] W fun e w' => e = .returned (.int .i64 S.done) ∧ w' = W :=
  AtR.look h fun f hf => hf.done
theorem RAt.isDown (h : RAt w0 W rb p0 p1 S own) :
    Calls Try.prog 22 #[.pointer (some ⟨rb, 0, none⟩)] W fun e w' => e = .returned (.bool S.down) ∧ w' = W :=
  AtR.look h fun f hf => hf.isDown
theorem RAt.crash {v0 v1 : Value} {b0 b1 : List Int} (h : RAt w0 W rb p0 p1 S own) (hv0 : Sl .u8 W v0 b0) (hv1 : Sl .u8 W v1 b1) (hB0 : IsBytes b0) (hB1 : IsBytes b1)
    (hc0 : b0 ≠ [] → ∀ b off len cap, v0 = .slice (some ⟨b, off, none⟩) len cap → b < w0.heap.size ∨ own b) (hc1 : b1 ≠ [] → ∀ b off len cap, v1 = .slice (some ⟨b, off, none⟩) len cap → b < w0.heap.size ∨ own b) (hm : S.Few 1000000) :
    Calls Try.prog 19 #[.pointer (some ⟨rb, 0, none⟩), v0, v1] W fun e w' => e = .returned (.tuple #[]) ∧ RAt w0 w' rb p0 p1 (S.crash b0 b1) own ∧ ∀ k, own k → w'.heap[k]? = W.heap[k]? :=
  AtR.call (R := fun e _ => e = .returned (.tuple #[])) (RigR.isRes _ _ _ _) h fun f hf hk => by
    refine hf.crash hv0 hv1 hB0 hB1 (fun hn b off len cap e hfb => ?_) (fun hn b off len cap e hfb => ?_) hm
    · rcases hc0 hn b off len cap e with h' | h'
      · have := (hk b hfb).1; omega
      · exact (hk b hfb).2 h'
    · rcases hc1 hn b off len cap e with h' | h'
      · have := (hk b hfb).1; omega
      · exact (hk b hfb).2 h'
theorem RAt.okRead (h : RAt w0 W rb p0 p1 S own) (dev i : Int) : IsBlk (S.read dev i) := by
  obtain ⟨f, h1, _⟩ := h
  unfold RS.read
  split
  · next hh => exact h1.okLook hh.1
  · exact isBlk_fill 0
end
end Go.Proofs.Ytompbjdhdjafgaa
