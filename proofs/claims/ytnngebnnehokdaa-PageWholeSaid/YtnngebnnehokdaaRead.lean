/- The reader of the package le: what its methods come to. -/
import Derived.RangeFuncBox
import Derived.Test.YtnngebnnehokdaaGet
import Derived.Test.YtnngebnnehokdaaPut
namespace Go.Proofs.Ytnngebnnehokdaa
open Go.RowKit Go.Shelf
set_option linter.unusedVariables false

/-- The reader at block rb has the bytes bs left; it and they lie below block N. -/
def Rdr (w : World) (N rb : Nat) (bs : List Int) : Prop :=
  ∃ b off cap, Boxed w rb 78 (.slice (some ⟨b, off, none⟩) bs.length cap) ∧ bs.length ≤ cap ∧ cap ≤ maxLen ∧ b < N ∧
    (∀ j, j < bs.length → w.cell? ⟨b, off + j, none⟩ = some (.int .u8 (bs[j]?.getD 0))) ∧ rb < N ∧ N ≤ w.heap.size

set_option maxRecDepth 100000 in
set_option maxHeartbeats 1000000 in
theorem next_at (rb b off len cap k : Nat) (w : World) (hb : Boxed w rb 78 (.slice (some ⟨b, off, none⟩) len cap)) (hk : k ≤ len) (hlen : len ≤ cap) (hcap : cap ≤ maxLen) :
    Calls Try.prog 38 #[.pointer (some ⟨rb, 0, none⟩), .int .i64 (k : Int)] w fun e w' =>
      e = .returned (.tuple #[.slice (some ⟨b, off, none⟩) k cap, .bool true]) ∧ w' = w.setCell ⟨rb, 0, none⟩ (.slice (some ⟨b, if k = cap then off else off + k, none⟩) (len - k) (cap - k)) := by
  unfold maxLen at hcap
  have c1 := hb.cell
  have f1 := hb.frozen
  have g1 : decide ((k : Int) < 0) = false := by simp
  have g2 : decide (len < k) = false := by simp; omega
  go_enter Try.func38, Try.ntmps38
  go_wp2
  all_goals
    go_ret2
    exact ⟨rfl, rfl⟩

set_option maxRecDepth 100000 in
set_option maxHeartbeats 1000000 in
theorem next_low (rb b off len cap : Nat) (k : Int) (w : World) (hb : Boxed w rb 78 (.slice (some ⟨b, off, none⟩) len cap)) (hk : k < 0) :
    Calls Try.prog 38 #[.pointer (some ⟨rb, 0, none⟩), .int .i64 k] w fun e w' => e = .returned (.tuple #[.slice none 0 0, .bool false]) ∧ w' = w := by
  have g1 : decide (k < 0) = true := by simpa using hk
  go_enter Try.func38, Try.ntmps38
  go_wp2
  go_ret2
  exact ⟨rfl, rfl⟩

set_option maxRecDepth 100000 in
set_option maxHeartbeats 1000000 in
theorem next_high (rb b off len cap : Nat) (k : Int) (w : World) (hb : Boxed w rb 78 (.slice (some ⟨b, off, none⟩) len cap)) (hk : (len : Int) < k) :
    Calls Try.prog 38 #[.pointer (some ⟨rb, 0, none⟩), .int .i64 k] w fun e w' => e = .returned (.tuple #[.slice none 0 0, .bool false]) ∧ w' = w := by
  have c1 := hb.cell
  have g0 : ¬ k < 0 := by omega
  have g1 : decide (k < 0) = false := by simpa using g0
  have g2 : decide ((len : Int) < k) = true := by simpa using hk
  go_enter Try.func38, Try.ntmps38
  go_wp2
  go_ret2
  exact ⟨rfl, rfl⟩

set_option maxRecDepth 100000 in
set_option maxHeartbeats 1000000 in
theorem next_nil (k : Int) (w : World) :
    Calls Try.prog 38 #[.pointer none, .int .i64 k] w fun e w' => e = .returned (.tuple #[.slice none 0 0, .bool false]) ∧ w' = w := by
  go_enter Try.func38, Try.ntmps38
  go_wp2
  go_ret2
  exact ⟨rfl, rfl⟩

set_option maxRecDepth 100000 in
set_option maxHeartbeats 1000000 in
theorem newReader_at (a : Option Addr) (len cap : Nat) (bs : List Int) (hlen : bs.length = len) (hcap : len ≤ 140737488351232) (w : World) (hA : Lies w a len bs) :
    Calls Try.prog 32 #[.slice a len cap] w fun e w' => ∃ rb, e = .returned (.pointer (some ⟨rb, 0, none⟩)) ∧ w.heap.size < rb ∧ Rdr w' w'.heap.size rb bs ∧ Below w.heap.size w w' := by
  obtain ⟨i0, hi, hz0, hz1, hz2⟩ := info_parts info_u8
  have hA := Lib.hid hA
  have HL := Lib.hid hlen
  clear hlen
  have HN := copy_len HL
  have H1 := copy_one (bs := bs)
  go_enter Try.func32, Try.ntmps32
  go_wp2_with (first | (at_make; refine wpList_make_full _ rfl _ _ 41 rfl w.heap.size 5 i0 (.int .u8 0) 1 Try.underlying41 hi hz0 hz1 .i64 .i64 _ _ len rfl rfl rfl rfl (by rw [hz2]; omega) (by unfold maxLen; omega) (by simp) ?_; intro w1 hown1 hgrow1; obtain ⟨HB, HR, HP⟩ := copy_facts HL hA hown1 hgrow1; clear hown1 hgrow1) | (with_reducible refine wpList_copy_splice rfl (.tmp 7) (.tmp 8) 41 41 rfl 5 Try.underlying41 size_u8 _ _ len len len cap rfl rfl w.heap.size 0 (List.replicate len (Value.int .u8 0)) 5 HR.out (bs.map (Value.int .u8)) HN.out HP.out (by rw [HN.out]; simp) H1.out w.heap.size w HB.out (Nat.le_refl _) ?_; intro w2 hg2 hB2))
  have hsz : w.heap.size < w2.heap.size := (Array.getElem?_eq_some_iff.1 hg2.out).1
  have hcells : ∀ j, j < bs.length → w2.cell? ⟨w.heap.size, 0 + j, none⟩ = some (.int .u8 (bs[j]?.getD 0)) := by
    intro j hj
    rw [cell_of_row _ _ _ _ _ _ hg2.out, splice_all _ _ (by rw [List.length_replicate, List.length_map, HL.out])]
    simp [hj]
  have HZ := Lib.hid hsz
  have HC := Lib.hid hcells
  clear hsz hcells
  go_ret
  refine ⟨_, rfl, HZ.out, ?_, hB2.alloc (Nat.le_of_lt HZ.out) _⟩
  have e := HL.out
  subst e
  exact ⟨w.heap.size, 0, _, Boxed.new _ _ _, Nat.le_refl _, by unfold maxLen; omega, by have := HZ.out; simp; omega, fun j hj => ((World.cell?_of_block (Below.heap_alloc w2 _ _ HZ.out)).trans (HC.out j hj)), by simp, Nat.le_refl _⟩

/-- **NewReader**: a reader of its own, with all bytes left. -/
theorem newReader_any (v : Value) (bs : List Int) (w : World) (hv : Sl .u8 w v bs) (hcap : bs.length ≤ 140737488351232) :
    Calls Try.prog 32 #[v] w fun e w' => ∃ rb, e = .returned (.pointer (some ⟨rb, 0, none⟩)) ∧ w.heap.size < rb ∧ Rdr w' w'.heap.size rb bs ∧ Below w.heap.size w w' := by
  obtain ⟨a, cap, rfl, hl, _⟩ := Lies.of_sl hv
  exact newReader_at a bs.length cap bs rfl hcap w hl

/-- Behind a read the reader has what was left, but for what was read; what was read lies where it lay. -/
theorem Rdr.next {w : World} {N rb b off cap : Nat} {bs : List Int} {k : Nat} (hb : Boxed w rb 78 (.slice (some ⟨b, off, none⟩) bs.length cap)) (h1 : bs.length ≤ cap) (h2 : cap ≤ maxLen) (h3 : b < N)
    (h4 : ∀ j, j < bs.length → w.cell? ⟨b, off + j, none⟩ = some (.int .u8 (bs[j]?.getD 0))) (hk : k ≤ bs.length) (h5 : rb < N ∧ N ≤ w.heap.size) :
    (Rdr (w.setCell ⟨rb, 0, none⟩ (.slice (some ⟨b, if k = cap then off else off + k, none⟩) (bs.length - k) (cap - k))) N rb (bs.drop k)) ∧
    (∀ j, j < bs.length → (w.setCell ⟨rb, 0, none⟩ (.slice (some ⟨b, if k = cap then off else off + k, none⟩) (bs.length - k) (cap - k))).cell? ⟨b, off + j, none⟩ = some (.int .u8 (bs[j]?.getD 0))) ∧
    w.grownBy (w.setCell ⟨rb, 0, none⟩ (.slice (some ⟨b, if k = cap then off else off + k, none⟩) (bs.length - k) (cap - k))) (some rb) := by
  have hg := grownBy_setCell' w rb (.slice (some ⟨b, if k = cap then off else off + k, none⟩) (bs.length - k) (cap - k))
  have hcells : ∀ j, j < bs.length → (w.setCell ⟨rb, 0, none⟩ (.slice (some ⟨b, if k = cap then off else off + k, none⟩) (bs.length - k) (cap - k))).cell? ⟨b, off + j, none⟩ = some (.int .u8 (bs[j]?.getD 0)) := by
    intro j hj
    have hne : b ≠ rb := by
      rintro rfl
      have h5 := h4 j hj
      rw [cell_of_row _ _ _ _ _ _ hb] at h5
      by_cases e : off + j = 0
      · rw [e] at h5; simp at h5
      · rw [Array.getElem?_eq_none (by simp; omega)] at h5; cases h5
    exact (World.cell?_of_block (hg.block b (Nat.lt_of_lt_of_le h3 h5.2) (fun e => hne (by cases e; rfl)))).trans (h4 j hj)
  refine ⟨⟨b, if k = cap then off else off + k, cap - k, ?_, by rw [List.length_drop]; omega, by omega, h3, ?_, h5.1, Nat.le_trans h5.2 hg.size⟩, hcells, hg⟩
  · rw [List.length_drop]; exact hb.set _
  · intro j hj
    rw [List.length_drop] at hj
    have e : (if k = cap then off else off + k) + j = off + (k + j) := by rw [if_neg (by omega)]; omega
    rw [e, drop_get]
    exact hcells (k + j) (by omega)

theorem Rdr.kept {w w' : World} {N rb : Nat} {bs : List Int} {row : Option Nat} (h : Rdr w N rb bs) (hg : w.grownBy w' row) (hr : ∀ r, row = some r → N ≤ r) : Rdr w' N rb bs := by
  obtain ⟨b, off, cap, h0, h1, h2, h3, h4, h5, h6⟩ := h
  exact ⟨b, off, cap, h0.kept hg (fun e => by have := hr _ e.symm; omega), h1, h2, h3, fun j hj => (World.cell?_of_block (hg.block b (by omega) (fun e => by have := hr _ e.symm; omega))).trans (h4 j hj), h5, Nat.le_trans h6 hg.size⟩

theorem Rdr.below {w w' : World} {N rb : Nat} {bs : List Int} (h : Rdr w N rb bs) (hg : w.grownBy w' none) : Rdr w' N rb bs := h.kept hg (fun r e => by cases e)

set_option maxRecDepth 100000 in
set_option maxHeartbeats 1000000 in
/-- **Num**, of no more than is left. -/
theorem num_yes {N : Nat} (rb : Nat) (bs : List Int) (k : Nat) (w : World) (hr : Rdr w N rb bs) (hB : IsBytes bs) (hk : k ≤ bs.length) :
    Calls Try.prog 33 #[.pointer (some ⟨rb, 0, none⟩), .int .i64 (k : Int)] w fun e w' =>
      e = .returned (.tuple #[.int .u64 (getL (bs.take k)), .bool true]) ∧ Rdr w' N rb (bs.drop k) ∧ w.grownBy w' (some rb) := by
  obtain ⟨b, off, cap, h0, h1, h2, h3, h4, h5⟩ := hr
  obtain ⟨r1, r2, r3⟩ := Rdr.next h0 h1 h2 h3 h4 hk h5
  obtain ⟨W, hW⟩ : ∃ W, w.setCell ⟨rb, 0, none⟩ (.slice (some ⟨b, if k = cap then off else off + k, none⟩) (bs.length - k) (cap - k)) = W := ⟨_, rfl⟩
  have hl : Lies W (some ⟨b, off, none⟩) k (bs.take k) := by
    rw [← hW]
    exact .inr ⟨b, off, rfl, Nat.lt_of_lt_of_le h3 (Nat.le_trans h5.2 r3.size), fun j hj => by rw [take_get bs k j hj]; exact r2 j (by omega)⟩
  have hn : Calls Try.prog 38 #[.pointer (some ⟨rb, 0, none⟩), .int .i64 (k : Int)] w fun e w' => e = .returned (.tuple #[.slice (some ⟨b, off, none⟩) k cap, .bool true]) ∧ w' = W := by
    rw [← hW]; exact next_at rb b off bs.length cap k w h0 hk h1 h2
  rw [hW] at r1 r3
  have hg := get_at (some ⟨b, off, none⟩) k cap (bs.take k) (by rw [List.length_take]; omega) (by unfold maxLen at h2; omega) W hl (hB.take k)
  have HG := Lib.hid hg
  have HC := Lib.hid hn
  have R1 := Lib.hid r1
  have R3 := Lib.hid r3
  clear h0 h1 h2 h3 h4 h5 hk hB hl r1 r2 r3 hW hn hg
  go_enter Try.func33, Try.ntmps33
  go_wp2_with fail
  refine HC.out.mono ?_
  rintro e w' ⟨rfl, rfl⟩
  go_wp2_with fail
  refine HG.out.mono ?_
  rintro e w' ⟨rfl, hb⟩
  have HB := Lib.hid hb
  clear hb
  go_wp2
  go_ret2
  exact ⟨rfl, R1.out.below (grown_below HB.out none), grown_trans R3.out (grown_below HB.out _)⟩

set_option maxRecDepth 100000 in
set_option maxHeartbeats 1000000 in
/-- **Num**, of what is not there. -/
theorem num_no {N : Nat} (rb : Nat) (bs : List Int) (k : Int) (w : World) (hr : Rdr w N rb bs) (hk : k < 0 ∨ (bs.length : Int) < k) :
    Calls Try.prog 33 #[.pointer (some ⟨rb, 0, none⟩), .int .i64 k] w fun e w' =>
      e = .returned (.tuple #[.int .u64 0, .bool false]) ∧ Below w.heap.size w w' := by
  obtain ⟨b, off, cap, h0, h1, h2, h3, h4, h5⟩ := hr
  have hn : Calls Try.prog 38 #[.pointer (some ⟨rb, 0, none⟩), .int .i64 k] w fun e w' => e = .returned (.tuple #[.slice none 0 0, .bool false]) ∧ w' = w := by
    rcases hk with h | h
    · exact next_low rb b off _ cap k w h0 h
    · exact next_high rb b off _ cap k w h0 h
  have HN := Lib.hid hn
  clear h0 h1 h2 h3 h4 h5 hk hn
  go_enter Try.func33, Try.ntmps33
  go_wp2_with fail
  refine HN.out.mono ?_
  rintro e w' ⟨rfl, rfl⟩
  go_wp2_with fail
  refine (get_any _ [] _ (Sl.nil _ _) (fun j => by simp)).mono ?_
  rintro e w' ⟨rfl, hb⟩
  have HB := Lib.hid hb
  clear hb
  go_wp2
  go_ret2
  exact ⟨rfl, HB.out⟩

set_option maxRecDepth 100000 in
set_option maxHeartbeats 1000000 in
theorem num_nil (k : Int) (w : World) :
    Calls Try.prog 33 #[.pointer none, .int .i64 k] w fun e w' =>
      e = .returned (.tuple #[.int .u64 0, .bool false]) ∧ Below w.heap.size w w' := by
  go_enter Try.func33, Try.ntmps33
  go_wp2_with fail
  refine (next_nil k w).mono ?_
  rintro e w' ⟨rfl, rfl⟩
  go_wp2_with fail
  refine (get_any _ [] _ (Sl.nil _ _) (fun j => by simp)).mono ?_
  rintro e w' ⟨rfl, hb⟩
  have HB := Lib.hid hb
  clear hb
  go_wp2
  go_ret2
  exact ⟨rfl, HB.out⟩

set_option maxRecDepth 100000 in
set_option maxHeartbeats 1000000 in
/-- **Take**, of no more than is left: bytes of its own. -/
theorem take_yes {N : Nat} (rb : Nat) (bs : List Int) (k : Nat) (w : World) (hr : Rdr w N rb bs) (hk : k ≤ bs.length) (hcap : bs.length ≤ 140737488351232) :
    Calls Try.prog 34 #[.pointer (some ⟨rb, 0, none⟩), .int .i64 (k : Int)] w fun e w' =>
      ∃ g, e = .returned (.tuple #[.slice (some ⟨g, 0, none⟩) k k, .bool true]) ∧ w.heap.size ≤ g ∧ w'.heap[g]? = some (.cells ((bs.take k).map (Value.int .u8)).toArray 5 (0, 0)) ∧ Rdr w' N rb (bs.drop k) ∧ w.grownBy w' (some rb) := by
  obtain ⟨b, off, cap, h0, h1, h2, h3, h4, h5⟩ := hr
  obtain ⟨r1, r2, r3⟩ := Rdr.next h0 h1 h2 h3 h4 hk h5
  obtain ⟨W, hW⟩ : ∃ W, w.setCell ⟨rb, 0, none⟩ (.slice (some ⟨b, if k = cap then off else off + k, none⟩) (bs.length - k) (cap - k)) = W := ⟨_, rfl⟩
  have hl : Lies W (some ⟨b, off, none⟩) k (bs.take k) := by
    rw [← hW]
    exact .inr ⟨b, off, rfl, Nat.lt_of_lt_of_le h3 (Nat.le_trans h5.2 r3.size), fun j hj => by rw [take_get bs k j hj]; exact r2 j (by omega)⟩
  have hsz : W.heap.size = w.heap.size := by rw [← hW]; simp
  have hn : Calls Try.prog 38 #[.pointer (some ⟨rb, 0, none⟩), .int .i64 (k : Int)] w fun e w' => e = .returned (.tuple #[.slice (some ⟨b, off, none⟩) k cap, .bool true]) ∧ w' = W := by
    rw [← hW]; exact next_at rb b off bs.length cap k w h0 hk h1 h2
  rw [hW] at r1 r3
  obtain ⟨i0, hi, hz0, hz1, hz2⟩ := info_parts info_u8
  have HL0 : Hid ((bs.take k).length = k) := by show _ = _; rw [List.length_take]; omega
  have hA := Lib.hid hl
  have HN := copy_len HL0
  have H1 := copy_one (bs := bs.take k)
  have HC := Lib.hid hn
  have R1 := Lib.hid r1
  have R3 := Lib.hid r3
  have HS := Lib.hid hsz
  have hk1 : k ≤ 140737488351232 := by omega
  clear h0 h1 h2 h3 h4 h5 hk hl r1 r2 r3 hW hn hsz hcap
  go_enter Try.func34, Try.ntmps34
  go_wp2_with fail
  refine HC.out.mono ?_
  rintro e w' ⟨rfl, rfl⟩
  go_wp2_with (first | (at_make; refine wpList_make_full _ rfl _ _ 41 rfl w'.heap.size 5 i0 (.int .u8 0) 1 Try.underlying41 hi hz0 hz1 .i64 .i64 _ _ k rfl rfl rfl rfl (by rw [hz2]; omega) (by unfold maxLen; omega) (by simp) ?_; intro w1 hown1 hgrow1; obtain ⟨HB, HR, HP⟩ := copy_facts HL0 hA hown1 hgrow1; clear hown1 hgrow1) | (with_reducible refine wpList_copy_splice rfl (.tmp 19) (.tmp 20) 41 41 rfl 5 Try.underlying41 size_u8 _ _ k k k cap rfl rfl w'.heap.size 0 (List.replicate k (Value.int .u8 0)) 5 HR.out ((bs.take k).map (Value.int .u8)) HN.out HP.out (by rw [HN.out]; simp) H1.out w'.heap.size w' HB.out (Nat.le_refl _) ?_; intro w2 hg2 hB2))
  go_ret2
  have hB2' := hB2
  have e2 : splice (List.replicate k (Value.int .u8 0)) 0 ((bs.take k).map (Value.int .u8)) = (bs.take k).map (Value.int .u8) := splice_all _ _ (by rw [List.length_replicate, List.length_map, HL0.out])
  have h2 := hg2.out
  rw [e2] at h2
  exact ⟨_, rfl, Nat.le_of_eq HS.out.symm, by rw [← List.map_take]; exact h2, R1.out.below (grown_below hB2 none), grown_trans R3.out (grown_below hB2 _)⟩

set_option maxRecDepth 100000 in
set_option maxHeartbeats 1000000 in
/-- **Take**, of what is not there. -/
theorem take_no {N : Nat} (rb : Nat) (bs : List Int) (k : Int) (w : World) (hr : Rdr w N rb bs) (hk : k < 0 ∨ (bs.length : Int) < k) :
    Calls Try.prog 34 #[.pointer (some ⟨rb, 0, none⟩), .int .i64 k] w fun e w' =>
      e = .returned (.tuple #[.slice none 0 0, .bool false]) ∧ w' = w := by
  obtain ⟨b, off, cap, h0, h1, h2, h3, h4, h5⟩ := hr
  have hn : Calls Try.prog 38 #[.pointer (some ⟨rb, 0, none⟩), .int .i64 k] w fun e w' => e = .returned (.tuple #[.slice none 0 0, .bool false]) ∧ w' = w := by
    rcases hk with h | h
    · exact next_low rb b off _ cap k w h0 h
    · exact next_high rb b off _ cap k w h0 h
  have HN := Lib.hid hn
  clear h0 h1 h2 h3 h4 h5 hk hn
  go_enter Try.func34, Try.ntmps34
  go_wp2_with fail
  refine HN.out.mono ?_
  rintro e w' ⟨rfl, rfl⟩
  go_wp2
  go_ret2
  exact ⟨rfl, rfl⟩

set_option maxRecDepth 100000 in
set_option maxHeartbeats 1000000 in
theorem take_nil (k : Int) (w : World) :
    Calls Try.prog 34 #[.pointer none, .int .i64 k] w fun e w' =>
      e = .returned (.tuple #[.slice none 0 0, .bool false]) ∧ w' = w := by
  go_enter Try.func34, Try.ntmps34
  go_wp2_with fail
  refine (next_nil k w).mono ?_
  rintro e w' ⟨rfl, rfl⟩
  go_wp2
  go_ret2
  exact ⟨rfl, rfl⟩

/-- The reader is not a row of bytes. -/
theorem Rdr.not_row {w : World} {N rb : Nat} {bs : List Int} (h : Rdr w N rb bs) {base n : Nat} {v : Value} {xs : List Value} (hr : w.ownsRow base 5 1 v n xs) : v.ownBlock ≠ some rb := by
  obtain ⟨b, off, cap, h0, _⟩ := h
  exact (h0.not_row (by decide) hr).symm

end Go.Proofs.Ytnngebnnehokdaa
