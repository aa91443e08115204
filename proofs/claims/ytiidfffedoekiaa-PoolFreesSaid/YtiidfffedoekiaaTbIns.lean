/- The library's Clone and Insert at pairs. -/
import Derived.Test.YtiidfffedoekiaaTbSea
import Derived.Lib.AppendZerosOnto
import Derived.Lib.Overlaps
namespace Go.Proofs.Ytiidfffedoekiaa
open Go.RowKit
set_option linter.unusedVariables false

/-- A copy into a row of elements of two cells. -/
theorem run_copy_row2 {P : Program} (w : World) (dT sT ty elem : TypeId) (g o dLen dCap : Nat) (a : Addr) (sLen sCap : Nat) (cur : Array Value) (t : TypeId) (cs : List Value) (k : Nat)
    (hu : P.underlying dT = some (.slice elem)) (hs : (P.info? elem).map (·.size) = some 2)
    (hg : w.heap[g]? = some (.cells cur t (0, 0))) (hk : Nat.min sLen dLen = k) (hn : cs.length = k * 2)
    (hsrc : ∀ j v, cs[j]? = some v → w.cell? (a.add j) = some v) (hfit : o + cs.length ≤ cur.size) (h1 : ∀ v ∈ cs, v.oneCell' = true) :
    (Builtin.copy_ #[dT, sT] ty #[.slice (some ⟨g, o, none⟩) dLen dCap, .slice (some a) sLen sCap]).run P w =
      .ok (goInt k) (w.setRow g (cur.toList.take o ++ cs ++ cur.toList.drop (o + cs.length)).toArray) := by
  have hl := run_loadCells_list (P := P) w a cs hsrc
  rw [hn] at hl
  have hst := run_storeCells_at P g o t cs 0 cur w hg (by simpa using hfit) h1
  cases hq : P.info? elem with
  | none => simp [hq] at hs
  | some i =>
    have hi : i.size = 2 := by simpa [hq] using hs
    simp [Builtin.copy_, run_underlying hu, Builtin.lenOf, Builtin.firstCells, sizeOf, typeInfo, hq, hi, hk, hl, hst]
theorem wpList_copy_run {P : Program} {w w' : World} {ops : Array Oper} {rest : List Oper} {o : Oper} {a : Act} {Q : Exit → Act → World → Prop} (d s : Operand) (t : TypeId)
    (ho : o.op = .call { callee := .builtin .copy, args := #[d, s], argTypes := #[t, t] }) (hw : Region.wanted o (yielded ops a.tmps) = true)
    (vd vs v' : Value) (hd : a.eval d = vd) (hs : a.eval s = vs) (hrun : (Builtin.copy_ #[t, t] o.type #[vd, vs]).run P w = .ok v' w')
    (h : wpList P ops Q rest (a.put o.dst v') w') : wpList P ops Q (o :: rest) a w := by
  unfold wpList
  rw [if_pos hw]
  refine .inl ?_
  unfold Oper.wp
  simp [execOp, ho, resolve, invoke, builtin, hd, hs, hrun, Result.andThen]
  exact h
theorem PrO.base {N : Nat} {w : World} {v : Value} {l : List (Int × Int)} (h : PrO N w v l) : ∀ j, v.ownBlock = some j → N ≤ j ∧ j < w.heap.size := by
  intro j hj
  rcases h.1.2 with ⟨rfl, h0⟩ | ⟨g, cap, cur, rfl, h1, h2, -⟩
  · cases hj
  · cases hj
    exact ⟨h1, (Array.getElem?_eq_some_iff.1 h2).1⟩

set_option maxRecDepth 100000 in
theorem eql_prs1 (p : Addr) (n c : Nat) (w : World) : (binOp .eql 37 (.slice (some p) n c) (.slice none 0 0)).run Try.prog w = .ok (.bool false) w := by kernel_rfl
set_option maxRecDepth 100000 in
theorem eql_prs0 (w : World) : (binOp .eql 37 (.slice none 0 0) (.slice none 0 0)).run Try.prog w = .ok (.bool true) w := by kernel_rfl
attribute [local go_sem] eql_prs0 eql_prs1
set_option maxRecDepth 100000 in
set_option maxHeartbeats 4000000 in
/-- **Clone**. -/
theorem tb_clone {w : World} {v : Value} {l : List (Int × Int)} (h : Prt w v l) (hlen : l.length ≤ 1000000) :
    Calls Try.prog 53 #[v] w fun e w' => ∃ u, e = .returned u ∧ PrO w.heap.size w' u l ∧ Below w.heap.size w w' := by
  have HP := Lib.hid h
  obtain ⟨a, cap, rfl, -, -, -, h0, h4⟩ := h
  cases a with
  | none =>
    obtain rfl : l = [] := by
      rcases h4 with h4 | ⟨b, off, e, -⟩
      · exact h4
      · cases e
    obtain rfl := h0 rfl
    go_enter Try.func53, Try.ntmps53
    go_wp2
    go_ret
    exact ⟨_, rfl, PrO.nil _ _, Below.refl _ _⟩
  | some ad =>
    obtain ⟨W, hW⟩ : ∃ W, w.alloc (.cells #[] 42) = W := ⟨_, rfl⟩
    have SB := slice_prs0 w
    rw [hW] at SB
    have hb := below_new w (.cells #[] 42)
    rw [hW] at hb
    have ho : PrO w.heap.size W (.slice (some ⟨w.heap.size, 0, none⟩) 0 0) [] := by
      rw [← hW]
      exact ⟨World.ownsRow_lit w #[] 0 (Nat.le_refl _) (by simp [maxLen]) rfl, fun p hp => by cases hp⟩
    obtain ⟨u, W2, hr, h1, h2, -⟩ := pr_append ho (HP.out.below hb) hb.size (by simpa using hlen)
    have HA := Lib.hid hr
    have HO := Lib.hid h1
    have HB : Hid (Below w.heap.size w W2) := hb.grown h2 hb.size (fun j e => by cases e; exact Nat.le_refl _)
    have HS := Lib.hid SB
    clear h0 h4 hW SB hb ho hr h1 h2 HP
    go_enter Try.func53, Try.ntmps53
    go_wp2_with (first | (refine gate_build ?_; refine wpList_build_run 37 0 #[] rfl rfl [] _ rfl HS.out ?_) | (at_builtin; refine wpList_append_run (.tmp 5) (.tmp 6) 37 rfl rfl _ _ _ rfl rfl (HA.out _) ?_))
    go_ret
    exact ⟨_, rfl, HO.out, HB.out⟩

/-- What stands in a row behind room was made in the middle. -/
theorem row_shift {N : Nat} {w : World} {g cap i : Nat} {cur : Array Value} {l : List (Int × Int)} (p : Int × Int) (hg : w.heap[g]? = some (.cells cur 42 (0, 0))) (hN : N ≤ g) (hi : i ≤ l.length) (hcap : l.length + 1 ≤ cap) (hcm : cap ≤ maxLen)
    (hsz : cur.size = cap * 2) (h1 : cur.toList.take (i * 2) = pcs (l.take i)) (h2 : (cur.toList.drop (i * 2)).take 2 = prL p.1 p.2) (h3 : (cur.toList.drop (i * 2 + 2)).take ((l.length - i) * 2) = pcs (l.drop i)) (h64 : Is64s l) (hp : Is64 p.1 ∧ Is64 p.2) :
    PrO N w (.slice (some ⟨g, 0, none⟩) (l.length + 1) cap) (tIns l i p) := by
  have hl := tIns_length p hi
  refine ⟨⟨by rw [pcs_length], .inr ⟨g, cap, cur, by rw [hl], hN, hg, by omega, hcm, hsz, ?_⟩⟩, tIns_is h64 hp⟩
  rw [hl, show (l.length + 1) * 2 = i * 2 + (2 + (l.length - i) * 2) by omega, List.take_add, List.take_add, h1, h2, List.drop_drop, h3]
  unfold tIns
  rw [pcs_append, pcs_cons]
  rfl

set_option maxRecDepth 100000 in
set_option maxHeartbeats 8000000 in
/-- **Insert** of one, there is room. -/
theorem tb_insert_room {N : Nat} {w : World} {g cap i B : Nat} {cur : Array Value} {l : List (Int × Int)} {p : Int × Int} (hg : w.heap[g]? = some (.cells cur 42 (0, 0))) (hN : N ≤ g) (hi : i < l.length) (hcap : l.length + 1 ≤ cap) (hcm : cap ≤ maxLen)
    (hsz : cur.size = cap * 2) (ht : cur.toList.take (l.length * 2) = pcs l) (h64 : Is64s l) (hp : Is64 p.1 ∧ Is64 p.2) (hB : RowC w B 42 (prL p.1 p.2)) (hne : g ≠ B) (hlen : l.length ≤ 900000) :
    Calls Try.prog 82 #[.slice (some ⟨g, 0, none⟩) l.length cap, .int .i64 (i : Int), .slice (some ⟨B, 0, none⟩) 1 1] w fun e w' =>
      ∃ u, e = .returned u ∧ PrO N w' u (tIns l i p) ∧ w.grownBy w' (some g) ∧ Same w (some g) u := by
  obtain ⟨n, hn⟩ : ∃ n, l.length = n := ⟨_, rfl⟩
  have hov : ∀ lb cb, (callFunc 89 #[.slice (some ⟨B, 0, none⟩) 1 1, .slice (some ⟨g, (i + 1) * 2, none⟩) lb cb]).run Try.prog w = .ok (.value (.bool false)) w := fun lb cb => by
    rw [run_callFunc_extern Try.func89 (by kernel_rfl) (by kernel_rfl) (by kernel_rfl) (e := Extern.SlicesOverlaps.overlaps #[37, 37] #[4]) (by kernel_rfl),
      Lib.run_overlaps_apart w 37 4 42 Try.underlying37 2 sizeOf_prs ⟨B, 0, none⟩ ⟨g, (i + 1) * 2, none⟩ 1 1 lb cb (fun e => hne e.symm) 42 42 2 (cap * 2) (by
        have h' : w.heap[B]? = some (.cells (prL p.1 p.2).toArray 42 (0, 0)) := hB
        simp only [World.shape?, h']; rfl) (by simp only [World.shape?, hg, hsz]) (by omega) (hB.frozen 0) (hB.frozen 2)]
    rfl
  have hdl : (pcs (l.drop i)).length = (n - i) * 2 := by rw [pcs_length, List.length_drop, hn]
  have hcur : ∀ j u, (pcs l)[j]? = some u → cur[j]? = some u := fun j u hj => by
    rw [← ht, List.getElem?_take] at hj
    split at hj
    · simpa using hj
    · cases hj
  have hmx : Try.prog.follows .mixedOrders = true := by kernel_rfl
  rw [hn] at hi hcap hlen ht
  obtain ⟨cur1, hc1⟩ : ∃ c : Array Value, c = (cur.toList.take ((i + 1) * 2) ++ pcs (l.drop i) ++ cur.toList.drop ((i + 1) * 2 + (pcs (l.drop i)).length)).toArray := ⟨_, rfl⟩
  obtain ⟨W1, hW1⟩ : ∃ W1, W1 = w.drew.setRow g cur1 := ⟨_, rfl⟩
  have hcp1 : ∀ ty dc sc, (Builtin.copy_ #[37, 37] ty #[.slice (some ⟨g, (i + 1) * 2, none⟩) (n - i) dc, .slice (some ⟨g, i * 2, none⟩) (n + 1 - i) sc]).run Try.prog w.drew = .ok (goInt ((n - i : Nat) : Int)) W1 := fun ty dc sc => by
    rw [hW1, hc1]
    refine run_copy_row2 w.drew _ _ ty 42 g ((i + 1) * 2) (n - i) dc ⟨g, i * 2, none⟩ (n + 1 - i) sc cur 42 (pcs (l.drop i)) (n - i) Try.underlying37 size_prs hg (by simp only [Nat.min_def]; split <;> omega) hdl (fun j v hj => ?_) (by rw [hdl, hsz]; omega) pcs_one
    rw [Addr.add_lit, show w.drew.cell? _ = w.cell? _ from rfl, cell_of_row _ _ _ _ _ _ hg]
    exact hcur _ _ (by rw [← pcs_drop, List.getElem?_drop] at hj; exact hj)
  have hg1 : W1.heap[g]? = some (.cells cur1 42 (0, 0)) := by rw [hW1]; exact setRow_heap w.drew g cur cur1 _ _ hg
  have hB1 : RowC W1 B 42 (prL p.1 p.2) := by rw [hW1]; exact (setRow_other w.drew g B cur1 (fun e => hne e.symm)).trans hB
  have hl1 : cur1.size = cap * 2 := by
    rw [hc1]
    simp only [List.size_toArray, List.length_append, List.length_take, List.length_drop, Array.length_toList, hdl, hsz]
    omega
  obtain ⟨cur2, hc2⟩ : ∃ c : Array Value, c = (cur1.toList.take (i * 2) ++ prL p.1 p.2 ++ cur1.toList.drop (i * 2 + (prL p.1 p.2).length)).toArray := ⟨_, rfl⟩
  obtain ⟨W2, hW2⟩ : ∃ W2, W2 = W1.setRow g cur2 := ⟨_, rfl⟩
  have hcp2 : ∀ ty dc, (Builtin.copy_ #[37, 37] ty #[.slice (some ⟨g, i * 2, none⟩) (n + 1 - i) dc, .slice (some ⟨B, 0, none⟩) 1 1]).run Try.prog W1 = .ok (goInt ((1 : Nat) : Int)) W2 := fun ty dc => by
    rw [hW2, hc2]
    refine run_copy_row2 W1 _ _ ty 42 g (i * 2) (n + 1 - i) dc ⟨B, 0, none⟩ 1 1 cur1 42 (prL p.1 p.2) 1 Try.underlying37 size_prs hg1 (by simp only [Nat.min_def]; split <;> omega) rfl (fun j v hj => ?_) (by rw [hl1]; show i * 2 + 2 ≤ _; omega) (by simp [prL]; exact ⟨rfl, rfl⟩)
    rw [Addr.add_lit, Nat.zero_add]
    exact hB1.cell j v hj
  have hg2 : W2.heap[g]? = some (.cells cur2 42 (0, 0)) := by rw [hW2]; exact setRow_heap W1 g cur1 cur2 _ _ hg1
  have hl2 : cur2.size = cap * 2 := by
    rw [hc2]
    simp only [List.size_toArray, List.length_append, List.length_take, List.length_drop, Array.length_toList, hl1, prL, List.length_cons, List.length_nil]
    omega
  have hil : i ≤ l.length := by omega
  have k0 : (cur1.toList.take (i * 2)) = pcs (l.take i) := by
    rw [hc1, List.take_append_of_le_length (by simp [hsz]; omega), List.take_append_of_le_length (by simp [hsz]; omega), List.take_take, Nat.min_eq_left (by omega), ← pcs_take, ← ht, List.take_take, Nat.min_eq_left (by omega)]
  have HO : Hid (PrO N W2 (.slice (some ⟨g, 0, none⟩) (n + 1) cap) (tIns l i p)) := by
    show PrO _ _ _ _
    rw [← hn]
    refine row_shift p hg2 hN hil (by omega) hcm hl2 ?_ ?_ ?_ h64 hp
    · rw [hc2, List.take_append_of_le_length (by simp [hl1]; omega), List.take_append_of_le_length (by simp [hl1]; omega), List.take_take, Nat.min_self, k0]
    · rw [hc2, List.append_assoc, List.drop_append_of_le_length (by simp [hl1]; omega), List.drop_take, Nat.sub_self, List.take_zero, List.nil_append]
      rfl
    · have e1 : cur2.toList.drop (i * 2 + 2) = cur1.toList.drop (i * 2 + 2) := by
        rw [hc2, List.drop_append, List.drop_of_length_le (by simp [hl1, prL]; omega), List.nil_append]
        simp [hl1, prL, Nat.min_eq_left (show i * 2 ≤ cap * 2 by omega)]
      rw [e1, hc1, List.append_assoc, show i * 2 + 2 = (i + 1) * 2 by omega, List.drop_append_of_le_length (by simp [hsz]; omega), List.drop_take, Nat.sub_self, List.take_zero, List.nil_append, List.take_append_of_le_length (by rw [hdl, hn]; omega), List.take_of_length_le (by rw [hdl, hn]; omega)]
  have HG : Hid (w.grownBy W2 (some g)) := by
    show World.grownBy _ _ _
    rw [hW2, hW1]
    refine ⟨rfl, rfl, rfl, by rw [setRow_size, setRow_size]; exact Nat.le_refl _, fun k _ hk => ?_⟩
    rw [setRow_other _ _ _ _ (fun e => hk (by rw [e])), setRow_other _ _ _ _ (fun e => hk (by rw [e]))]
    rfl
  have hw1 : IntKind.i64.wrap ((i : Int) + 1) = (i : Int) + 1 := by rw [IntKind.wrap_i64]; omega
  have hw2 : IntKind.i64.wrap ((n : Int) + 1) = (n : Int) + 1 := by rw [IntKind.wrap_i64]; omega
  have hz2 : ¬ ((i : Int) = (n : Int)) := by omega
  have hb1 : (0 : Int) ≤ (i : Int) + 1 := by omega
  have htn : ((i : Int) + 1).toNat = i + 1 := by omega
  have htm : ((n : Int) + 1).toNat = n + 1 := by omega
  have hb2 : ¬ (cap = i + 1) := by omega
  have hb3 : (i : Int) ≤ (n : Int) + 1 := by omega
  have hb4 : ¬ (cap = i) := by omega
  have hc63 : cap ≤ 9223372036854775807 := by unfold maxLen at hcm; omega
  have HC1 := Lib.hid hcp1
  have HC2 := Lib.hid hcp2
  have HV := Lib.hid hov
  rw [hn]
  clear hW1 hW2 hcp1 hcp2 hov hdl hcur hc1 hc2 hg1 hB1 hl1 hl2 k0 hg2 hg hB hsz ht hcm h64 hp
  go_enter Try.func82, Try.ntmps82
  go_wp2_with (simp only [HV.out])
  refine region_plan (fun x => x = w.drew) 8 (.takes [0, 1, 2, 3, 4, 5, 6, 7] .leaf) hmx (by kernel_rfl) (by intro c x v a w h; cases x <;> exact h) rfl ?_
  repeat (rw [wpPlan_takes_cons]; simp only [nth_zero, nth_succ]; go_big_quiet_step (fail); refine wpQuiet_nil ?_)
  rw [wpPlan_takes_nil, wpPlan_leaf]
  simp only [List.drop_succ_cons, List.drop_zero]

  go_wp2_with fail
  simp only [HC1.out]
  go_wp2_with fail
  try simp only [HC2.out]
  go_wp2_with fail
  go_ret
  exact ⟨_, rfl, HO.out, HG.out, .inl rfl⟩

set_option maxRecDepth 100000 in
set_option maxHeartbeats 8000000 in
/-- **Insert** of one, there is no room. -/
theorem tb_insert_grow {N : Nat} {w : World} {g cap i B : Nat} {cur : Array Value} {l : List (Int × Int)} {p : Int × Int} (hg : w.heap[g]? = some (.cells cur 42 (0, 0))) (hN : N ≤ w.heap.size) (hi : i < l.length) (hcap : cap < l.length + 1) (hcn : l.length ≤ cap)
    (hsz : cur.size = cap * 2) (ht : cur.toList.take (l.length * 2) = pcs l) (h64 : Is64s l) (hp : Is64 p.1 ∧ Is64 p.2) (hB : RowC w B 42 (prL p.1 p.2)) (hlen : l.length ≤ 900000) :
    Calls Try.prog 82 #[.slice (some ⟨g, 0, none⟩) l.length cap, .int .i64 (i : Int), .slice (some ⟨B, 0, none⟩) 1 1] w fun e w' =>
      ∃ u, e = .returned u ∧ PrO N w' u (tIns l i p) ∧ w.grownBy w' (some g) ∧ Same w (some g) u := by
  obtain ⟨n, hn⟩ : ∃ n, l.length = n := ⟨_, rfl⟩
  have hgw : g < w.heap.size := (Array.getElem?_eq_some_iff.1 hg).1
  have hdl : (pcs (l.drop i)).length = (n - i) * 2 := by rw [pcs_length, List.length_drop, hn]
  have htl : (pcs (l.take i)).length = i * 2 := by rw [pcs_length, List.length_take, Nat.min_eq_left (by omega)]
  have hcur : ∀ j u, (pcs l)[j]? = some u → cur[j]? = some u := fun j u hj => by
    rw [← ht, List.getElem?_take] at hj
    split at hj
    · simpa using hj
    · cases hj
  have hmx : Try.prog.follows .mixedOrders = true := by kernel_rfl
  rw [hn] at hi hcap hlen ht hcn
  obtain ⟨i0, hi0⟩ : ∃ i, Try.prog.info? 42 = some i := ⟨_, rfl⟩
  have hq := info_prs
  rw [hi0] at hq
  have hz : (i0.zero, i0.size, i0.bytes) = (some (.agg #[.int .i64 0, .int .i64 0]), 2, 16) := Option.some.inj hq
  have hz0 := congrArg (·.1) hz
  have hzs := congrArg (·.2.1) hz
  have hzb := congrArg (·.2.2) hz
  simp only at hz0 hzs hzb
  have hkk : (n : Int) + 1 - (i : Int) = ((n + 1 - i : Nat) : Int) := by omega
  have hik : i + (n + 1 - i) = n + 1 := by omega
  have hold : (Builtin.firstCells i0.size i (.slice (some ⟨g, 0, none⟩) i cap)).run Try.prog w.drew = .ok (pcs (l.take i)).toArray w.drew := by
    rw [hzs]
    refine run_firstCells_some w.drew 2 i ⟨g, 0, none⟩ i cap (pcs (l.take i)) htl (fun j v hj => ?_)
    rw [Addr.add_lit, Nat.zero_add, show w.drew.cell? _ = w.cell? _ from rfl, cell_of_row _ _ _ _ _ _ hg]
    rw [← pcs_take, List.getElem?_take] at hj
    split at hj
    · exact hcur j v hj
    · cases hj
  obtain ⟨G, hG⟩ : ∃ G, G = grownCap w (n + 1) cap 42 := ⟨_, rfl⟩
  obtain ⟨ROW, hROW⟩ : ∃ ROW : Array Value, ROW = (pcs (l.take i)).toArray ++ Builtin.zeroCells (Value.agg #[.int .i64 0, .int .i64 0]).cells (n + 1 - i) ++ Builtin.zeroCells (Value.agg #[.int .i64 0, .int .i64 0]).cells (G - (n + 1)) := ⟨_, rfl⟩
  obtain ⟨W1, hW1⟩ : ∃ W1, W1 = w.drew.alloc (.cells ROW 42) := ⟨_, rfl⟩
  have hrz : ∀ ty, (Builtin.append_ #[37, 3] ty #[.slice (some ⟨g, 0, none⟩) i cap, .int .i64 ((n : Int) + 1 - (i : Int))]).run Try.prog w =
      .ok (.slice (some ⟨w.heap.size, 0, none⟩) (n + 1) G) W1 := fun ty => by
    have h := Lib.run_append_grow_zeros (P := Try.prog) w 37 3 ty 42 i0 _ .i64 .i64 Try.underlying37 Try.underlying3 hi0 hz0 (some ⟨g, 0, none⟩) i cap (pcs (l.take i)) hold (n + 1 - i) (by omega) (by omega) (by omega) (by omega) (by rw [hzb]; omega) (by rw [hzb, hik]; exact growslice_fits hcap (by omega))
    rw [hik, ← hG, ← hROW, ← hW1] at h
    rw [hkk]
    exact h
  have hGn : n + 1 ≤ G := by rw [hG]; exact grownCap_ge w _ _ _
  have hGm : G ≤ maxLen := by rw [hG]; exact grownCap_le_maxLen w (n + 1) cap _ (by unfold maxLen; omega)
  have hRs : ROW.size = G * 2 := by
    rw [hROW]
    simp only [Array.size_append, List.size_toArray, size_zeroCells, htl]
    show i * 2 + (n + 1 - i) * 2 + (G - (n + 1)) * 2 = G * 2
    omega
  have hRt : ROW.toList.take (i * 2) = pcs (l.take i) := by
    rw [hROW]
    simp only [Array.toList_append, List.append_assoc]
    rw [← htl]
    exact List.take_left
  have hg1 : W1.heap[w.heap.size]? = some (.cells ROW 42 (0, 0)) := by rw [hW1]; exact heap_alloc_new w.drew _
  have hOld : ∀ k, k < w.heap.size → W1.heap[k]? = w.heap[k]? := fun k hk => by rw [hW1]; exact heap_alloc_old w.drew _ hk
  have hB1 : RowC W1 B 42 (prL p.1 p.2) := (hOld B hB.lt).trans hB
  obtain ⟨cur2, hc2⟩ : ∃ c : Array Value, c = (ROW.toList.take (i * 2) ++ prL p.1 p.2 ++ ROW.toList.drop (i * 2 + (prL p.1 p.2).length)).toArray := ⟨_, rfl⟩
  obtain ⟨W2, hW2⟩ : ∃ W2, W2 = W1.setRow w.heap.size cur2 := ⟨_, rfl⟩
  have hcp1 : ∀ ty dc, (Builtin.copy_ #[37, 37] ty #[.slice (some ⟨w.heap.size, i * 2, none⟩) (n + 1 - i) dc, .slice (some ⟨B, 0, none⟩) 1 1]).run Try.prog W1 = .ok (goInt ((1 : Nat) : Int)) W2 := fun ty dc => by
    rw [hW2, hc2]
    refine run_copy_row2 W1 _ _ ty 42 w.heap.size (i * 2) (n + 1 - i) dc ⟨B, 0, none⟩ 1 1 ROW 42 (prL p.1 p.2) 1 Try.underlying37 size_prs hg1 (by simp only [Nat.min_def]; split <;> omega) rfl (fun j v hj => ?_) (by rw [hRs]; show i * 2 + 2 ≤ _; omega) (by simp [prL]; exact ⟨rfl, rfl⟩)
    rw [Addr.add_lit, Nat.zero_add]
    exact hB1.cell j v hj
  have hg2 : W2.heap[w.heap.size]? = some (.cells cur2 42 (0, 0)) := by rw [hW2]; exact setRow_heap W1 _ _ cur2 _ _ hg1
  have hl2 : cur2.size = G * 2 := by
    rw [hc2]
    simp only [List.size_toArray, List.length_append, List.length_take, List.length_drop, Array.length_toList, hRs, prL, List.length_cons, List.length_nil]
    omega
  have hgs : W2.drew.heap[g]? = some (.cells cur 42 (0, 0)) := by
    show W2.heap[g]? = _
    rw [hW2, setRow_other _ _ _ _ (fun e => by omega), hOld g hgw]
    exact hg
  obtain ⟨cur3, hc3⟩ : ∃ c : Array Value, c = (cur2.toList.take ((i + 1) * 2) ++ pcs (l.drop i) ++ cur2.toList.drop ((i + 1) * 2 + (pcs (l.drop i)).length)).toArray := ⟨_, rfl⟩
  obtain ⟨W3, hW3⟩ : ∃ W3, W3 = W2.drew.setRow w.heap.size cur3 := ⟨_, rfl⟩
  have hcp2 : ∀ ty dc sc, (Builtin.copy_ #[37, 37] ty #[.slice (some ⟨w.heap.size, (i + 1) * 2, none⟩) (n - i) dc, .slice (some ⟨g, i * 2, none⟩) (n - i) sc]).run Try.prog W2.drew = .ok (goInt ((n - i : Nat) : Int)) W3 := fun ty dc sc => by
    rw [hW3, hc3]
    refine run_copy_row2 W2.drew _ _ ty 42 w.heap.size ((i + 1) * 2) (n - i) dc ⟨g, i * 2, none⟩ (n - i) sc cur2 42 (pcs (l.drop i)) (n - i) Try.underlying37 size_prs hg2 (by simp only [Nat.min_def]; split <;> omega) hdl (fun j v hj => ?_) (by rw [hdl, hl2]; omega) pcs_one
    rw [Addr.add_lit, cell_of_row _ _ _ _ _ _ hgs]
    exact hcur _ _ (by rw [← pcs_drop, List.getElem?_drop] at hj; exact hj)
  have hg3 : W3.heap[w.heap.size]? = some (.cells cur3 42 (0, 0)) := by rw [hW3]; exact setRow_heap W2.drew _ _ cur3 _ _ hg2
  have hl3 : cur3.size = G * 2 := by
    rw [hc3]
    simp only [List.size_toArray, List.length_append, List.length_take, List.length_drop, Array.length_toList, hdl, hl2]
    omega
  have hil : i ≤ l.length := by omega
  have HO : Hid (PrO N W3 (.slice (some ⟨w.heap.size, 0, none⟩) (n + 1) G) (tIns l i p)) := by
    show PrO _ _ _ _
    rw [← hn]
    refine row_shift p hg3 hN hil (by omega) hGm hl3 ?_ ?_ ?_ h64 hp
    · rw [hc3, List.take_append_of_le_length (by simp [hl2]; omega), List.take_append_of_le_length (by simp [hl2]; omega), List.take_take, Nat.min_eq_left (by omega), hc2, List.take_append_of_le_length (by simp [hRs]; omega), List.take_append_of_le_length (by simp [hRs]; omega), List.take_take, Nat.min_self, hRt]
    · rw [hc3, List.append_assoc, List.drop_append_of_le_length (by simp [hl2]; omega), List.take_append_of_le_length (by simp [hl2]; omega), List.drop_take, show (i + 1) * 2 - i * 2 = 2 by omega, List.take_take, Nat.min_self, hc2, List.append_assoc, List.drop_append_of_le_length (by simp [hRs]; omega), List.drop_take, Nat.sub_self, List.take_zero, List.nil_append]
      rfl
    · rw [hc3, List.append_assoc, show i * 2 + 2 = (i + 1) * 2 by omega, List.drop_append_of_le_length (by simp [hl2]; omega), List.drop_take, Nat.sub_self, List.take_zero, List.nil_append, List.take_append_of_le_length (by rw [hdl, hn]; omega), List.take_of_length_le (by rw [hdl, hn]; omega)]
  have HG : Hid (w.grownBy W3 (some g)) := by
    show World.grownBy _ _ _
    have hs1 : W1.heap.size = w.heap.size + 1 := by rw [hW1]; simp
    refine ⟨by rw [hW3, hW2, hW1]; rfl, by rw [hW3, hW2, hW1]; rfl, by rw [hW3, hW2, hW1]; rfl, ?_, fun k hk _ => ?_⟩
    · rw [hW3, setRow_size]
      show _ ≤ W2.heap.size
      rw [hW2, setRow_size]
      omega
    · rw [hW3, setRow_other _ _ _ _ (fun e => by omega)]
      show W2.heap[k]? = _
      rw [hW2, setRow_other _ _ _ _ (fun e => by omega), hOld k hk]
  have hw1 : IntKind.i64.wrap ((i : Int) + 1) = (i : Int) + 1 := by rw [IntKind.wrap_i64]; omega
  have hw2 : IntKind.i64.wrap ((n : Int) + 1) = (n : Int) + 1 := by rw [IntKind.wrap_i64]; omega
  have hw3 : IntKind.i64.wrap ((n : Int) + 1 - (i : Int)) = (n : Int) + 1 - (i : Int) := by rw [IntKind.wrap_i64]; omega
  have hz2 : ¬ ((i : Int) = (n : Int)) := by omega
  have hz3 : (cap : Int) < (n : Int) + 1 := by omega
  have hb1 : (0 : Int) ≤ (i : Int) + 1 := by omega
  have hin : i ≤ n := by omega
  have htn : ((i : Int) + 1).toNat = i + 1 := by omega
  have hb2 : ¬ (G = i + 1) := by omega
  have hb3 : (i : Int) ≤ (n : Int) := by omega
  have hb4 : ¬ (G = i) := by omega
  have hb5 : ¬ (cap = i) := by omega
  have hG63 : G ≤ 9223372036854775807 := by unfold maxLen at hGm; omega
  have hc63 : cap ≤ 9223372036854775807 := by omega
  have HC1 := Lib.hid hcp1
  have HC2 := Lib.hid hcp2
  have HR := Lib.hid hrz
  rw [hn]
  clear hcp1 hcp2 hrz hdl hcur hc2 hg1 hB1 hl2 hg2 hg hB hsz ht h64 hp hW1 hW2 hW3 hc3 hl3 hg3 hgs hOld hRt hRs hGm hROW hG hold hkk hz hz0 hzs hzb hq hi0 htl
  go_enter Try.func82, Try.ntmps82
  go_wp2_with (at_builtin; refine Lib.wpList_append_run _ rfl _ _ _ _ rfl _ _ rfl rfl _ _ (HR.out _) ?_)
  simp only [HC1.out]
  go_wp2_with fail
  refine region_plan (fun x => x = W2.drew) 8 (.takes [0, 1, 2, 3, 4, 5, 6, 7] .leaf) hmx (by kernel_rfl) (by intro c x v a w h; cases x <;> exact h) rfl ?_
  repeat (rw [wpPlan_takes_cons]; simp only [nth_zero, nth_succ]; go_big_quiet_step (fail); refine wpQuiet_nil ?_)
  rw [wpPlan_takes_nil, wpPlan_leaf]
  simp only [List.drop_succ_cons, List.drop_zero]
  go_wp2_with fail
  simp only [HC2.out]
  go_wp2_with fail
  go_ret
  exact ⟨_, rfl, HO.out, HG.out, .inr fun j e => by cases e; exact Nat.le_refl _⟩

set_option maxRecDepth 100000 in
set_option maxHeartbeats 4000000 in
/-- **Insert** of one. -/
theorem tb_insert {N : Nat} {w : World} {v : Value} {i B : Nat} {l : List (Int × Int)} {p : Int × Int} (h : PrO N w v l) (hN : N ≤ w.heap.size) (hi : i ≤ l.length) (hp : Is64 p.1 ∧ Is64 p.2) (hB : RowC w B 42 (prL p.1 p.2)) (hne : v.ownBlock ≠ some B) (hlen : l.length ≤ 900000) :
    Calls Try.prog 82 #[v, .int .i64 (i : Int), .slice (some ⟨B, 0, none⟩) 1 1] w fun e w' => ∃ u, e = .returned u ∧ PrO N w' u (tIns l i p) ∧ w.grownBy w' v.ownBlock ∧ Same w v.ownBlock u := by
  by_cases hin : i = l.length
  · have hx : Prt w (.slice (some ⟨B, 0, none⟩) 1 1) [p] := by
      refine ⟨_, 1, rfl, Nat.le_refl _, by simp [maxLen], fun q hq => by simp at hq; subst hq; exact hp, (fun e => by cases e), .inr ⟨B, 0, rfl, hB.lt, fun j q hj => ?_⟩⟩
      have hj0 : j = 0 := by have := (List.getElem?_eq_some_iff.1 hj).1; simp at this; exact this
      subst hj0
      simp at hj
      subst hj
      exact ⟨hB.cell 0 _ rfl, hB.cell 1 _ rfl⟩
    obtain ⟨u, w2, hr, h1, h2, h3⟩ := pr_append h hx hN (by simp; omega)
    rw [show l ++ [p] = tIns l i p by unfold tIns; rw [hin, List.take_length, List.drop_length]] at h1
    have HA := Lib.hid hr
    have HO := Lib.hid h1
    obtain ⟨ob, hob⟩ : ∃ ob, v.ownBlock = ob := ⟨_, rfl⟩
    rw [hob] at h2 h3 ⊢
    have HSM := Lib.hid h3
    have HG := Lib.hid h2
    have hpr := h.prt
    clear hob hne
    obtain ⟨a, cap, rfl, hc1, hc2, -⟩ := hpr
    subst hin
    have h63 : cap ≤ 9223372036854775807 := by unfold maxLen at hc2; omega
    clear hr h1 h2 h3 hx h hB hc2
    go_enter Try.func82, Try.ntmps82
    go_wp2_with (at_builtin; refine wpList_append_run (.tmp 23) (.tmp 24) 37 rfl rfl _ _ _ rfl rfl (HA.out _) ?_)
    all_goals (go_ret; exact ⟨_, rfl, HO.out, HG.out, HSM.out⟩)
  · have hb := h.base
    have h64 := h.2
    rcases h.1.2 with ⟨rfl, h0⟩ | ⟨g, cap, cur, rfl, h1, h2, h3, h4, h5, h6⟩
    · omega
    · by_cases hroom : l.length + 1 ≤ cap
      · exact tb_insert_room h2 h1 (by omega) hroom h4 h5 h6 h64 hp hB (fun e => hne (by rw [← e]; rfl)) hlen
      · exact tb_insert_grow h2 hN (by omega) (by omega) h3 h5 h6 h64 hp hB hlen
end Go.Proofs.Ytiidfffedoekiaa
