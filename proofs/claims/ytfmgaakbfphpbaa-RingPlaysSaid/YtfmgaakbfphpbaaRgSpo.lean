/- A ring of which one byte is turned. -/
import Derived.Test.YtfmgaakbfphpbaaG5
namespace Go.Proofs.Ytfmgaakbfphpbaa
open Go.RowKit
set_option linter.unusedVariables false

theorem layB_tot (q : Int) (q' : Int) : ∀ (ts : List (List Img)), (layB q ts).length = (layB q' ts).length
  | [] => rfl
  | t :: ts => by
    show (txnB q t ++ _).length = (txnB q' t ++ _).length
    rw [List.length_append, List.length_append, txnB_length, txnB_length, layB_tot ((q + 1) % 4294967296) ((q' + 1) % 4294967296) ts]
theorem layB_cons (q : Int) (t : List Img) (ts : List (List Img)) : (layB q (t :: ts)).length = t.length + 1 + (layB q ts).length := by
  show (txnB q t ++ _).length = _
  rw [List.length_append, txnB_length, layB_tot ((q + 1) % 4294967296) q]
theorem wants_snoc (q : Int) : ∀ (ts : List (List Img)) (s : Nat) (t : List Img), wants s (ts ++ [t]) = if (layB q (ts ++ [t])).length ≤ s then wants s ts + 1 else wants s ts
  | [], s, t => by
    show wants s [t] = _
    have e : (layB q ([] ++ [t])).length = t.length + 1 := by show (layB q [t]).length = _; rw [layB_cons]; rfl
    rw [e]
    rfl
  | t0 :: ts, s, t => by
    show wants s (t0 :: (ts ++ [t])) = _
    have e : (layB q (t0 :: ts ++ [t])).length = t0.length + 1 + (layB q (ts ++ [t])).length := layB_cons q t0 (ts ++ [t])
    rw [e]
    unfold wants
    by_cases h : t0.length + 1 ≤ s
    · rw [if_pos h, if_pos h, wants_snoc q ts]
      by_cases h2 : (layB q (ts ++ [t])).length ≤ s - (t0.length + 1)
      · rw [if_pos h2, if_pos (by omega)]
      · rw [if_neg h2, if_neg (by omega)]
    · rw [if_neg h, if_neg h, if_neg (by omega)]
theorem read_rd {S : RS} (hby : S.BB) (hup : S.down = false) {i : Nat} (hi : i < S.n0) : S.read 0 (i : Int) = u8s (S.rd i) ∧ S.readE 0 (i : Int) = 0 := by
  constructor
  · unfold RS.read
    rw [if_pos ⟨RS.has0 hi, hup⟩]
    unfold RS.look
    rw [if_pos rfl]
    exact (hby.byt i hi).2.2
  · unfold RS.readE
    rw [if_pos (RS.has0 hi), if_neg (by rw [hup]; simp)]
/-- One sector written, on a rig without a fuse. -/
theorem write_rd {S : RS} (hu : S.Up) (hf : S.Few 255) {i : Nat} (hi : i < S.n0) (bs : List Int) : S.writeE 0 (i : Int) = 0 ∧ (S.write 0 (i : Int) (u8s bs)).rd i = bs ∧ (∀ j, j ≠ i → (S.write 0 (i : Int) (u8s bs)).rd j = S.rd j) ∧ (S.write 0 (i : Int) (u8s bs)).n0 = S.n0 := by
  obtain ⟨h1, h2⟩ := S.write0 hi (u8s bs)
  rcases h2 with ⟨_, e, hD⟩ | ⟨h, _⟩
  · refine ⟨e, ?_, fun j hj => ?_, h1.n0⟩
    · unfold RS.rd
      rw [hD, upd_same, Sec.look_add (hf.1 i hi), byt_u8s]
    · unfold RS.rd
      rw [hD, upd_other _ _ hj]
  · rw [hu.ok] at h; cases h
/-- **One byte turned.** -/
theorem Ln.spoil {n0 F C P : Nat} {q0 : Int} {ts : List (List Img)} {S : RS} (h : Ln n0 F C P q0 ts S) (hts : ts.length ≤ 100) {s k i : Nat} (hs : s < (layB q0 ts).length) (hi : plc F C P s = i) (hk : k < 64) {y : Int} (hy : 0 ≤ y ∧ y < 256) (hne : y ≠ (S.rd i)[k]?.getD 0) :
    ∃ a, repS (S.write 0 (i : Int) (u8s ((S.rd i).set k y))).rd F C P q0 = (ts.take (wants s ts), a, seqAt q0 (wants s ts)) ∧ (S.write 0 (i : Int) (u8s ((S.rd i).set k y))).BB ∧ (S.write 0 (i : Int) (u8s ((S.rd i).set k y))).Up ∧ (S.write 0 (i : Int) (u8s ((S.rd i).set k y))).n0 = n0 ∧ S.writeE 0 (i : Int) = 0 := by
  have h2 := h.ring.two
  have hin : i < S.n0 := by rw [← hi]; exact plc_lt (show 0 < C by omega) h.ring.room s
  obtain ⟨e1, e2, e3, e4⟩ := write_rd h.up (h.few.mono (by omega)) hin ((S.rd i).set k y)
  obtain ⟨g1, g2, g3⟩ := h.bb.byt i hin
  have hlay := h.ring.lay s hs
  rw [hi] at hlay
  obtain ⟨p, hp, hb⟩ := layB_sct ts C q0 s (S.rd i) h.ring.seq h.ring.ok hlay
  have hbad : decOk ((S.rd i).set k y) = false := by
    rw [hb] at hne ⊢
    exact turned_bad hp hk hy hne
  obtain ⟨a, ha⟩ := h.ring.spoilt (rd := (S.write 0 (i : Int) (u8s ((S.rd i).set k y))).rd) hs (by rw [hi, e2]; exact hbad) (fun j hj => e3 j (by rw [hi] at hj; exact hj))
  have hbb : BB (u8s ((S.rd i).set k y)) := ⟨_, rfl, fun j => by
    by_cases hj : k = j
    · subst hj
      rw [List.getElem?_set_self (by rw [g2]; exact hk)]
      exact hy
    · rw [List.getElem?_set_ne hj]
      exact g1 j, by rw [List.length_set]; exact g2⟩
  exact ⟨a, ha, h.bb.write 0 (i : Int) hbb, (h.up.write 0 (i : Int) _).1, e4.trans h.n0, e1⟩
end Go.Proofs.Ytfmgaakbfphpbaa
