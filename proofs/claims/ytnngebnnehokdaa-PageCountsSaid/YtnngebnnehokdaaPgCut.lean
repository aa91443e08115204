/- The developers' Cut. -/
import Derived.Test.YtnngebnnehokdaaPgChk
import Derived.Test.YtnngebnnehokdaaPgRefC
import Derived.Test.YtnngebnnehokdaaPgCnt
namespace Go.Proofs.Ytnngebnnehokdaa
open Go.RowKit Go.Shelf
set_option linter.unusedVariables false

/-- A region in order, in a round of a loop over a function: walked as it stands. -/
theorem list_round {l₀ n : Nat} {P : Program} {ops : Array Oper} {Q : Exit → Act → World → Prop} (hL : ¬ LetsOut Q) : ∀ (l : List Oper) (a : Act) (w : World), (∀ o ∈ l, ∀ c, o.op ≠ .defer c) → wpList P ops Q l a w → wpListIn (Fence.wide.inRound l₀) n P ops Q l a w
  | [], _, _, _, h => h
  | o :: rest, a, w, hd, h => by
    have hd' : ∀ o ∈ rest, ∀ c, o.op ≠ .defer c := fun o ho => hd o (List.mem_cons_of_mem _ ho)
    unfold wpList at h
    unfold wpListIn
    by_cases hw : Region.wanted o (yielded ops a.tmps) = true
    · rw [if_pos hw] at h ⊢
      rcases h with h | h
      · exact op_round (hd o List.mem_cons_self) (Oper.wp_mono (fun a' w' => list_round hL rest a' w' hd') h)
      · exact absurd h.2 hL
    · rw [if_neg hw] at h ⊢
      exact ⟨fun _ _ => trivial, list_round hL rest _ _ hd' h⟩
theorem region_seq_round {l₀ n id : Nat} {P : Program} {l : List Oper} {Q : Exit → Act → World → Prop} {a : Act} {w : World} (hL : ¬ LetsOut Q) (hd : noDefer l.toArray = true) (h : wpList P l.toArray Q l a w) : (Code.region id l.toArray false).wpIn (Fence.wide.inRound l₀) n P Q a w :=
  wpIn_region_lit (list_round hL l a w (fun o ho => by
    obtain ⟨i, hi⟩ := List.getElem?_of_mem ho
    exact noDefer_spec hd (i := i) (by simpa using hi)) h)
theorem letsOut_then {K : Act → World → Prop} {Q : Exit → Act → World → Prop} (h : ¬ LetsOut Q) : ¬ LetsOut (Exit.then K Q) := fun ⟨a, w, e⟩ => h ⟨a, w, e⟩

theorem chunk_stops (n : Nat) (hn : 1 ≤ n) (Bs Bn b off len cap m : Nat) (a : Option Addr) (ha : len = 0 ∨ a = some ⟨b, off, none⟩) (hlc : len ≤ cap) (hc : cap ≤ maxLen) (hmx : len ≤ 1000000) (hm : m = (len + 47) / 48) (w : World)
    (h1 : Bs < w.heap.size) (h2 : Bn < w.heap.size) (hBs : w.cell? ⟨Bs, 0, none⟩ = some (.slice a len cap)) (hBn : w.cell? ⟨Bn, 0, none⟩ = some (.int .i64 48)) :
    SeqStopsK Fence.wide n Try.prog 35 #[.pointer (some ⟨Bs, 0, none⟩), .pointer (some ⟨Bn, 0, none⟩)] (encC b off len (m := m)) (KpC fun k => k = Bs ∨ k = Bn) (fun ys => ys = List.finRange m) (fun _ => True) m w := fun l J Jx W hW hJ _ hY h0 =>
  (chunk1_in n hn l Bs Bn b off len cap m a ha hlc hc hmx hm _ (.inl rfl) (.inr rfl) J Jx hY
    (fun pre W hj => hJ pre W W.drew none hj (grown_below (Below.refl _ W).drew none) (fun r e => by cases e))
    W ((hW.cell (p := ⟨Bs, 0, none⟩) h1).trans hBs) ((hW.cell (p := ⟨Bn, 0, none⟩) h2).trans hBn) h0 (Nat.lt_of_lt_of_le h1 hW.size) (Nat.lt_of_lt_of_le h2 hW.size)).mono fun e W' ⟨he, h⟩ => ⟨he, h.imp id fun ⟨pre, _, hj⟩ => ⟨pre, trivial, hj⟩⟩

theorem row_slice {W : World} {base sz n : Nat} {e : TypeId} {v : Value} {xs : List Value} (h : W.ownsRow base e sz v n xs) : ∃ ra n c, v = .slice ra n c := by
  rcases h.2 with ⟨rfl, _⟩ | ⟨g, cap, cur, rfl, _⟩
  · exact ⟨_, _, _, rfl⟩
  · exact ⟨_, _, _, rfl⟩
theorem row_cells {W : World} {base sz n j : Nat} {e : TypeId} {v : Value} {xs : List Value} {o : Obj} (h : W.ownsRow base e sz v n xs) (hj : v.ownBlock = some j) (ho : W.heap[j]? = some o) : o.isCells = true := by
  rcases h.2 with ⟨rfl, _⟩ | ⟨g, cap, cur, rfl, _, hg, _⟩
  · simp [Value.ownBlock] at hj
  · obtain rfl : g = j := by simpa [Value.ownBlock] using hj
    rw [hg] at ho
    cases ho
    rfl

attribute [-simp] Try.isAgg27 Try.zeroValue27 Try.isAgg23 Try.zeroValue23
attribute [-go_sem] loadVar storeVar
attribute [local go_sem] zero_blk build_blk zero_bod loadVar_open3 storeVar_open Oper.semAt_some

set_option maxRecDepth 100000 in
set_option maxHeartbeats 2000000 in
theorem pgCut (v : Value) (bs : List Int) (w : World) (hv : Sl .u8 w v bs) (hl : bs.length ≤ 100000) :
    Calls Try.prog 15 #[v] w fun e w' => ∃ v', e = .returned v' ∧ w'.ownsRow w.heap.size 23 48 v' (nPcs bs) (rows bs (nPcs bs)).flatten ∧ Below w.heap.size w w' := by
  have HS := Lib.hid hv
  obtain ⟨a, cap, rfl, hm1, hm2, hla, -⟩ := hv
  obtain ⟨len, hlen⟩ : ∃ n, bs.length = n := ⟨_, rfl⟩
  have HL := Lib.hid hlen
  obtain ⟨m, hm⟩ : ∃ n, nPcs bs = n := ⟨_, rfl⟩
  have HN : Hid (m = (len + 47) / 48) := by show _ = _; rw [← hm, ← hlen]; rfl
  obtain ⟨b, off, hab, hcs⟩ : ∃ b off, (len = 0 ∨ a = some ⟨b, off, none⟩) ∧ (0 < len → b < w.heap.size ∧ ∀ j, j < len → w.cell? ⟨b, off + j, none⟩ = some (.int .u8 (bs[j]?.getD 0))) := by
    rcases hla with h | ⟨b, off, e, h1, h2⟩
    · refine ⟨0, 0, .inl (by rw [← hlen, h]; rfl), fun h0 => ?_⟩
      rw [← hlen, h] at h0
      simp at h0
    · exact ⟨b, off, .inr e, fun _ => ⟨h1, fun j hj => h2 j (by omega)⟩⟩
  have HA := Lib.hid hab
  have HC := Lib.hid hcs
  rw [hlen] at hl hm1 HS ⊢
  rw [hm]
  have HM2 := Lib.hid hm2
  clear hlen hm hla hab hcs hm2
  have hcn : cnt (len : Int) = (m : Int) := by rw [cnt_nat, HN.out]
  have hmm : m ≤ 100000 := by have := HN.out; omega
  refine (callsIn_wide (n := 3)).1 ?_
  refine callsIn_of_wp_marks Try.func15 rfl trivial ?_ rfl
  simp only [Try.ntmps15, List.size_toArray, List.length_cons, List.length_nil, Nat.reduceAdd, Nat.reduceSub, Array.replicate_succ, Array.replicate_zero, List.push_toArray, List.append_toArray, List.nil_append, List.cons_append]
  obtain ⟨i0, hi, hz0, hz1, hz2⟩ := info_parts info_bod
  gi_wp2_with (first | (refine ⟨trivial, ?_⟩; gi_at_call 17; refine (callsIn_wide.2 (pgCount (len : Int) _ (by omega) (by omega))).mono ?_; rintro e w' ⟨rfl, rfl⟩; rw [hcn]) | (gi_at_make; refine wpListIn_make_own _ rfl _ _ 42 rfl w'.heap.size 23 i0 (.agg z48.toArray) 48 Try.underlying42 hi hz0 hz1 .i64 .i64 _ m rfl rfl rfl (by rw [hz2]; omega) (by unfold maxLen; omega) (Nat.le_refl _) ?_; intro w1 hown1 hgrow1) | (refine ⟨trivial, ?_⟩; gi_at_call 27; refine (chunk_in _ _ trivial rfl _ _ _ _).mono ?_; rintro e w2 ⟨rfl, rfl⟩))
  obtain ⟨W2, hW2⟩ : ∃ W2, w1.alloc (.cells #[.slice (some ⟨w'.heap.size, 0, none⟩) 0 m] 42) = W2 := ⟨_, rfl⟩
  obtain ⟨W3, hW3⟩ : ∃ W3, W2.alloc (.cells #[.slice a len cap] 41) = W3 := ⟨_, rfl⟩
  obtain ⟨W4, hW4⟩ : ∃ W4, W3.alloc (.cells #[.int .i64 48] 3) = W4 := ⟨_, rfl⟩
  obtain ⟨B3, hB3⟩ : ∃ B3, w1.heap.size = B3 := ⟨_, rfl⟩
  have z2 : W2.heap.size = B3 + 1 := by rw [← hW2, World.size_alloc, hB3]
  have z3 : W3.heap.size = B3 + 2 := by rw [← hW3, World.size_alloc, z2]
  have z4 : W4.heap.size = B3 + 3 := by rw [← hW4, World.size_alloc, z3]
  have hw1 : Below w'.heap.size w' w1 := (Below.refl _ w').grown hgrow1 (Nat.le_refl _) (fun k e => by cases e)
  have HB4 : Hid (Below w'.heap.size w' W4) := by
    have a2 : Below w'.heap.size w' W2 := by rw [← hW2]; exact hw1.alloc hw1.size _
    have a3 : Below w'.heap.size w' W3 := by rw [← hW3]; exact a2.alloc a2.size _
    show Below _ _ _
    rw [← hW4]; exact a3.alloc a3.size _
  have HBX : Hid (Boxed W4 B3 42 (.slice (some ⟨w'.heap.size, 0, none⟩) 0 m)) := by
    show Boxed _ _ _ _
    rw [← hW4, ← hW3, ← hW2, ← hB3]
    exact ((Boxed.new w1 _ _).alloc _).alloc _
  have HBS : Hid (Boxed W4 (B3 + 1) 41 (.slice a len cap)) := by
    have := (Boxed.new W2 41 (.slice a len cap)).alloc (.cells #[.int .i64 48] 3)
    rw [hW3, hW4, z2] at this
    exact this
  have HBN : Hid (Boxed W4 (B3 + 1 + 1) 3 (.int .i64 48)) := by
    have := Boxed.new W3 3 (.int .i64 48)
    rw [hW4, z3] at this
    exact this
  have HRW : Hid (W4.ownsRow w'.heap.size 23 48 (.slice (some ⟨w'.heap.size, 0, none⟩) 0 m) 0 []) := by
    show World.ownsRow _ _ _ _ _ _ _
    rw [← hW4, ← hW3, ← hW2]
    exact ((hown1.alloc _).alloc _).alloc _
  have HZ3 : Hid (w'.heap.size ≤ B3) := by show _ ≤ _; rw [← hB3]; exact hw1.size
  rw [hW2, hW3, hW4, hB3]
  clear hW2 hW3 hW4 hown1 hgrow1 hw1 hB3 z2 z3 hz0 hz1 hz2 hi
  refine wpIn_rangeFunc_ownF (n := 3) rfl (by omega) (gf := 35) (lb := #[.pointer (some ⟨B3 + 1, 0, none⟩), .pointer (some ⟨B3 + 1 + 1, 0, none⟩)]) rfl trivial (enters_of Try.func35 (by kernel_rfl) rfl)
    (chunk_stops 2 (by omega) (B3 + 1) (B3 + 1 + 1) b off len cap m a HA.out hm1 HM2.out (by omega) HN.out W4 (by omega) (by omega) HBS.out.cell HBN.out.cell) kpC_t (kpC_b (by rintro k (rfl | rfl) <;> omega)) (Below.refl _ _) (fun _ => rfl)
    (fun pre W => (∃ v, Boxed W B3 42 v ∧ W.ownsRow w'.heap.size 23 48 v (pre.map fun x : Fin m => u8s (piece bs x.1)).length (pre.map fun x : Fin m => u8s (piece bs x.1)).flatten ∧ Boxed W (B3 + 1) 41 (.slice a len cap) ∧ Boxed W (B3 + 1 + 1) 3 (.int .i64 48)) ∧ Below w'.heap.size w' W)
    (fun _ _ _ => False)
    ?hI (fun _ _ _ _ _ h _ _ => h.elim) ?h0 ?a1 ?assign ?body ?done ?stop
  case hI =>
    intro s W W' row ⟨⟨v, hv, ho, h1, h2⟩, hB⟩ hg hrow
    have hr' : ∀ r, row = some r → ∃ o : Obj, W.heap[r]? = some o ∧ o.isCells = false := fun r e => (hrow r e).2
    exact ⟨⟨v, boxed_own _ _ (fun _ : Unit => _) () W W' row hv hg hr', ownsRow_own _ _ _ _ (fun _ : Unit => _) (fun _ => _) () W W' row ho hg hr', boxed_own _ _ (fun _ : Unit => _) () W W' row h1 hg hr', boxed_own _ _ (fun _ : Unit => _) () W W' row h2 hg hr'⟩, ownFrom_below (β := Unit) (Nat.le_refl _) (by have := HZ3.out; omega) () W W' row hB hg hrow⟩
  case h0 => exact ⟨⟨_, HBX.out, HRW.out, HBS.out, HBN.out⟩, HB4.out⟩
  case assign =>
    intro l x W K hK
    dsimp only [encC]
    gi_wp2
    exact hK
  case body =>
    rintro l pre x W ⟨⟨v, hv, ho, hbs, hbn⟩, hB⟩ hlen
    have hx := x.2
    obtain ⟨k, hk⟩ : ∃ k, x.1 = k := ⟨_, rfl⟩
    obtain ⟨K, hK⟩ : ∃ K, 48 * k = K := ⟨_, rfl⟩
    obtain ⟨H, hH⟩ : ∃ H, min 48 (len - K) = H := ⟨_, rfl⟩
    rw [hk] at hx ⊢
    rw [hK, hH]
    have hlt : K < len := by have := HN.out; omega
    have hcl : ((bs.drop K).take H).length = H := by rw [List.length_take, List.length_drop, HL.out]; omega
    have HSP : ∀ y, Below w'.heap.size w' y → Sl .u8 y (.slice (some ⟨b, off + K, none⟩) H H) ((bs.drop K).take H) := fun y hy => by
      obtain ⟨h1, h2⟩ := HC.out (by omega)
      have := Sl.at (k := .u8) (w := y) (b := b) (off := off + K) (cap := H) (bs := (bs.drop K).take H) (by omega) (by unfold maxLen; omega) (Nat.lt_of_lt_of_le h1 hy.size) (fun j hj => by
        rw [hcl] at hj
        rw [hy.cell (p := ⟨b, off + K + j, none⟩) h1, take_get _ _ _ hj, drop_get, Nat.add_assoc]
        exact h2 (K + j) (by omega))
      rwa [hcl] at this
    obtain ⟨x1, hx1⟩ : ∃ x, W.alloc (.cells z48.toArray 23) = x := ⟨_, rfl⟩
    have k1 : x1.heap[W.heap.size]? = some (.cells z48.toArray 23 (0, 0)) := by rw [← hx1]; exact heap_alloc_new W _
    have b1 : Below W.heap.size W x1 := by rw [← hx1]; exact (Below.refl _ _).alloc (Nat.le_refl _) _
    have t1 : x1.there W.heap.size 0 H := row_there k1 0 _ (by rw [z48_size]; omega)
    have rc0 := run_copy_bytes (w := x1) (B := W.heap.size) (o := 0) (dLen := 48) (dCap := 48) 3 (HSP _ (hB.trans (b1.mono hB.size))) (by rw [hcl]; omega) (by rw [hcl]; exact t1)
    obtain ⟨x2, hx2⟩ : ∃ x, x1.setCells W.heap.size 0 (u8s ((bs.drop K).take H)) = x := ⟨_, rfl⟩
    rw [hx2, hcl] at rc0
    have RC0 := Lib.hid rc0
    have hp : u8s (piece bs k) = u8s ((bs.drop K).take H) ++ u8s (List.replicate (48 - H) 0) := by
      have e1 : (bs.drop K).take 48 = (bs.drop K).take H := by
        by_cases h : K + 48 ≤ len
        · rw [show H = 48 by omega]
        · rw [List.take_of_length_le (by rw [List.length_drop, HL.out]; omega), List.take_of_length_le (by rw [List.length_drop, HL.out]; omega)]
      unfold piece
      rw [hK, e1, hcl]
      simp [u8s]
    have ra2 : x2.rangeAt W.heap.size 0 (u8s (piece bs k)) := by
      rw [hp]
      refine rangeAt_app ?_ ?_
      · rw [← hx2]; exact World.rangeAt_setCells_same x1 _ 0 _ (by rw [u8s_length, hcl]; exact t1)
      · rw [u8s_length, hcl, ← hx2]
        refine World.rangeAt_setCells_apart (w := x1) (fun j x hx => ?_) _ 0 _ (.inr (.inr (by rw [u8s_length, hcl]; omega)))
        refine (cell_of_row x1 _ _ _ _ _ k1).trans ?_
        have hj : j < 48 - H := by have := (List.getElem?_eq_some_iff.1 hx).1; simpa [u8s] using this
        rw [← hx, List.getElem?_toArray]
        unfold z48 u8s
        rw [List.getElem?_map, List.getElem?_map, List.getElem?_replicate, List.getElem?_replicate, if_pos (by omega), if_pos hj]
    have b2 : Below W.heap.size W x2 := by rw [← hx2]; exact b1.trans ((below_cells (Nat.le_refl W.heap.size) _ _ x1).mono (Nat.le_refl _))
    have hpl : (u8s (piece bs k)).length = 48 := by rw [u8s_length, piece_length]
    have L20 := Lib.hid (load_bod ra2 hpl)
    obtain ⟨x3, hx3⟩ : ∃ x, x2.alloc (.cells (u8s (piece bs k)).toArray 23) = x := ⟨_, rfl⟩
    have SB0 : Hid ((Instr.buildSlice 42 1 #[(0, .agg (u8s (piece bs k)).toArray)]).run Try.prog x2 = .ok (.slice (some ⟨x2.heap.size, 0, none⟩) 1 1) x3) := by rw [← hx3]; exact slice_bod x2 _ hpl
    have b3 : Below W.heap.size W x3 := by rw [← hx3]; exact b2.alloc b2.size _
    have B3' : Below w'.heap.size w' x3 := hB.trans (b3.mono hB.size)
    have O3 := own_below ho b3
    obtain ⟨v4, x4, r4, o4, g4, -⟩ := append_bod w'.heap.size x3 v (pre.map fun x : Fin m => u8s (piece bs x.1)) (u8s (piece bs k)) x2.heap.size O3 hpl (u8s_one _) (row_range (t := 23) (by rw [← hx3]; exact heap_alloc_new x2 _)) (by rw [List.length_map]; omega) B3'.size
    obtain ⟨ra4, n4, p4, hv4⟩ := row_slice o4
    subst hv4
    have R4 := Lib.hid r4
    have hv3 : Boxed x3 B3 42 v := hv.kept (grown_below b3 none) (by simp)
    have hs3 : Boxed x3 (B3 + 1) 41 (.slice a len cap) := hbs.kept (grown_below b3 none) (by simp)
    have hn3 : Boxed x3 (B3 + 1 + 1) 3 (.int .i64 48) := hbn.kept (grown_below b3 none) (by simp)
    have hv4 : Boxed x4 B3 42 v := hv3.kept g4 (hv3.not_row (by decide) O3)
    have hs4 : Boxed x4 (B3 + 1) 41 (.slice a len cap) := hs3.kept g4 (hs3.not_row (by decide) O3)
    have hn4 : Boxed x4 (B3 + 1 + 1) 3 (.int .i64 48) := hn3.kept g4 (hn3.not_row (by decide) O3)
    have hv5 := hv4.set (.slice ra4 n4 p4)
    have hs5 : Boxed (x4.setCell ⟨B3, 0, none⟩ (.slice ra4 n4 p4)) (B3 + 1) 41 (.slice a len cap) := hs4.other (by omega) _
    have hn5 : Boxed (x4.setCell ⟨B3, 0, none⟩ (.slice ra4 n4 p4)) (B3 + 1 + 1) 3 (.int .i64 48) := hn4.other (by omega) _
    have o5 : (x4.setCell ⟨B3, 0, none⟩ (.slice ra4 n4 p4)).ownsRow w'.heap.size 23 48 (.slice ra4 n4 p4) ((pre ++ [x]).map fun x : Fin m => u8s (piece bs x.1)).length ((pre ++ [x]).map fun x : Fin m => u8s (piece bs x.1)).flatten := by
      have := o4.kept (grownBy_setCell' x4 B3 (.slice ra4 n4 p4)) (.inr (fun e => hv4.not_row (by decide) o4 e.symm))
      rw [List.map_append, List.map_cons, List.map_nil, hk]
      exact this
    have POST : Hid (ownPostK (KpC fun k => k = B3 + 1 ∨ k = B3 + 1 + 1) (fun pre W => (∃ v, Boxed W B3 42 v ∧ W.ownsRow w'.heap.size 23 48 v (pre.map fun x : Fin m => u8s (piece bs x.1)).length (pre.map fun x : Fin m => u8s (piece bs x.1)).flatten ∧ Boxed W (B3 + 1) 41 (.slice a len cap) ∧ Boxed W (B3 + 1 + 1) 3 (.int .i64 48)) ∧ Below w'.heap.size w' W) (fun (_ : Code) (_ : List (Fin m)) (_ : World) => False) (pre ++ [x]) W .normal { tmps := #[], defers := [] } (x4.setCell ⟨B3, 0, none⟩ (.slice ra4 n4 p4))) := by
      refine ⟨((KeepsOthers.of_grownBy (grown_below b3 none) (fun j o e => by cases e)).trans (KeepsOthers.of_grownBy g4 (fun j o hj hoj => row_cells O3 hj hoj))).trans (KeepsOthers.setCell _ _ _), ⟨?_, ?_⟩, ⟨_, hv5, o5, hs5, hn5⟩, (B3'.grown g4 B3'.size (fun j e => (O3.lt j e).1)).setCell (p := ⟨B3, 0, none⟩) HZ3.out _⟩
      · exact Nat.le_trans b3.size (Nat.le_trans g4.size (grownBy_setCell' x4 B3 (.slice ra4 n4 p4)).size)
      · rintro k (rfl | rfl)
        · exact hs5.trans hbs.symm
        · exact hn5.trans hbn.symm
    have c2 : x2.cell? ⟨B3, 0, none⟩ = some v := (b2.cell (p := ⟨B3, 0, none⟩) hv.lt).trans hv.cell
    have c4 := hv4.cell
    have f4 := hv4.frozen
    clear hs5 hn5 hv5 o5 hv4 hs4 hn4 hv3 hs3 hn3 r4 o4 g4 O3 B3' b3 b2 b1 hpl ra2 hp rc0 t1 k1 HSP hcl hv ho hbs hbn hB hx3 hx2 hH hK
    have RC := RC0.out
    gi_step
    gi_step
    gi_step
    refine region_seq_round (letsOut_then (letsOut_inBlock letsOut_own)) (by kernel_rfl) ?_
    go_wp2_with fail
    gi_step
    refine region_seq_round (letsOut_then (letsOut_inBlock letsOut_own)) (by kernel_rfl) ?_
    go_wp2_with fail
    clear RC
    refine region_seq_round (letsOut_inBlock letsOut_own) (by kernel_rfl) ?_
    go_wp2_with fail
    rw [L20.out]
    clear c2
    go_wp2_with (first | ((with_reducible refine gate_build ?_); refine wpList_build_run _ _ _ rfl rfl [(0, .agg (u8s (piece bs k)).toArray)] _ rfl SB0.out ?_) | (at_builtin; refine wpList_append_run (.tmp 16) (.tmp 18) 42 rfl rfl _ _ _ rfl rfl R4.out ?_))
    exact POST.out
  case done =>
    rintro D xs W hD rfl ⟨⟨v, hv, ho, hbs, hbn⟩, hB⟩ hK
    have c2 := hv.cell
    have hrw : W.ownsRow w'.heap.size 23 48 v m (rows bs m).flatten := by
      have e : (List.finRange m).map (fun x : Fin m => u8s (piece bs x.1)) = rows bs m := by
        unfold rows
        apply List.ext_getElem
        · simp
        · intro i h1 h2; simp
      rw [e, rows_length] at ho
      exact ho
    gi_wp2
    refine ⟨by simp, .inl ⟨_, _, rfl, run_takeDeferred hK, ?_⟩⟩
    refine ⟨_, results_tmp rfl _ _ _, _, rfl, ownsRow_putObj hrw _ hK rfl, hB.trans (belowK_b (w := w') (Nat.le_refl _) W D _ _ (by have := HB4.out.size; omega) hK rfl rfl)⟩
  case stop =>
    rintro D c pre W _ _ h _
    exact h.elim
end Go.Proofs.Ytnngebnnehokdaa
