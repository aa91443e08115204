/- All: the numbers of a set collected; Good. -/
import Derived.Test.YtiidfffedoekiaaBiIt
import Derived.Test.YtiidfffedoekiaaBlk
namespace Go.Proofs.Ytiidfffedoekiaa
open Go.RowKit Go.Shelf
set_option linter.unusedVariables false

attribute [local go_sem] Oper.semAt_some

set_option maxRecDepth 100000 in
theorem info_int' : (Try.prog.info? 3).map (fun i => (i.zero, i.size, i.bytes)) = some (some (.int .i64 0), 1, 8) := by kernel_rfl
def natV (l : List Nat) : List Value := l.map fun k : Nat => Value.int .i64 (k : Int)
theorem natV_snoc (l : List Nat) (x : Nat) : natV (l ++ [x]) = natV l ++ [.int .i64 (x : Int)] := by simp [natV]
theorem natV_ints (l : List Nat) : natV l = (l.map (fun k : Nat => (k : Int))).map (Value.int .i64) := by simp [natV]
theorem cell_new1 (W : World) (v : Value) (t : TypeId) : ∀ j u, [v][j]? = some u → (W.alloc (.cells #[v] t)).cell? ((⟨W.heap.size, 0, none⟩ : Addr).add j) = some u := by
  intro j u hj
  have h0 : j = 0 := by
    have := (List.getElem?_eq_some_iff.1 hj).1
    simpa using this
  subst h0
  obtain rfl : v = u := by simpa using hj
  have e0 : (⟨W.heap.size, 0, none⟩ : Addr).add 0 = ⟨W.heap.size, 0, none⟩ := by simp [Addr.add]
  rw [e0, cell_of_row _ _ _ _ _ _ (World.alloc_heap_new W _)]
  rfl

theorem own_mono {w : World} {b b' n : Nat} {e : TypeId} {s : Nat} {v : Value} {xs : List Value} (h : w.ownsRow b e s v n xs) (hb : b' ≤ b) : w.ownsRow b' e s v n xs :=
  ⟨h.1, h.2.imp id fun ⟨g, cap, cur, h1, h2, h3⟩ => ⟨g, cap, cur, h1, Nat.le_trans hb h2, h3⟩⟩
theorem sl_nat {w : World} {base e : Nat} {v : Value} {l : List Nat} (h : w.ownsRow base e 1 v l.length (natV l)) : Sl .i64 w v (l.map (fun k : Nat => (k : Int))) := by
  rw [natV_ints] at h
  have hl : (l.map (fun k : Nat => (k : Int))).length = l.length := by simp
  rcases h.2 with ⟨rfl, h0⟩ | ⟨g, cap, cur, rfl, h1, h2, h3, h4, h5, h6⟩
  · obtain rfl : l = [] := List.eq_nil_of_length_eq_zero h0
    exact Sl.nil _ _
  · refine ⟨_, cap, by rw [hl], by rw [hl]; exact h3, h4, .inr ⟨g, 0, rfl, (Array.getElem?_eq_some_iff.1 h2).1, fun j hj => ?_⟩, fun e => by cases e⟩
    rw [hl] at hj
    rw [Nat.zero_add, h.cellAt j (by omega), List.getElem?_map, List.getElem?_eq_getElem (by rw [hl]; exact hj)]
    rfl

set_option maxRecDepth 100000 in
set_option maxHeartbeats 2000000 in
theorem bi_append (Bs len cap : Nat) (a : Option Addr) (bs : List Int) (hz : bs.length = len) (hb : IsBytes bs) (hmax : len ≤ 100000) (w : World) (hBs : Bs < w.heap.size)
    (hbx : w.cell? ⟨Bs, 0, none⟩ = some (.slice a len cap)) (hA : Lies w a len bs) :
    Calls Try.prog 61 #[.slice none 0 0, .func (.func 62) #[] #[.pointer (some ⟨Bs, 0, none⟩)]] w fun e w' => ∃ v, e = .returned v ∧ w'.ownsRow w.heap.size 3 1 v (allB bs).length (natV (allB bs)) ∧ Below w.heap.size w w' := by
  obtain ⟨i0, hi, hz0, hz1, hz2⟩ := info_parts info_int'
  refine (callsIn_wide (n := 3)).1 ?_
  refine callsIn_of_wp_marks Try.func61 rfl trivial ?_ rfl
  simp only [Try.ntmps61, List.size_toArray, List.length_cons, List.length_nil, Nat.reduceAdd, Nat.reduceSub, Array.replicate_succ, Array.replicate_zero, List.push_toArray, List.append_toArray, List.nil_append, List.cons_append]
  have HA := Lib.hid hA
  have HR := Lib.hid hb
  have HN : Hid ((allB bs).length ≤ 800000) := by show _ ≤ _; have := all_len bs; omega
  have HX := Lib.hid hbx
  clear hA hb hbx
  gi_wp2_with fail
  have bl0 := Boxed.new w 35 (.slice none 0 0)
  have hB0 : Below w.heap.size w (w.alloc (.cells #[.slice none 0 0] 35)) := (Below.refl _ w).alloc (Nat.le_refl _) _
  have hx0 := (hB0.cell (p := ⟨Bs, 0, none⟩) hBs).trans HX.out
  have hl0 := (HA.out.imp id fun ⟨b, off, e, h1, h2⟩ => ⟨b, off, e, h1, fun j hj => (hB0.cell (p := ⟨b, off + j, none⟩) h1).trans (h2 j hj)⟩ : len = 0 ∨ ∃ b off, a = some ⟨b, off, none⟩ ∧ b < w.heap.size ∧ ∀ j, j < len → (w.alloc (.cells #[.slice none 0 0] 35)).cell? ⟨b, off + j, none⟩ = some (.int .u8 (bs[j]?.getD 0)))
  refine wpIn_rangeFunc_ownF (n := 3) rfl (by omega) (gf := 62) (lb := #[.pointer (some ⟨Bs, 0, none⟩)]) rfl trivial (enters_of Try.func62 (by kernel_rfl) rfl)
    (numbers_stops 2 (by omega) Bs w.heap.size len cap a bs hz HR.out hmax _ (by simp; omega) (by simp) hx0 hl0) belowK_t (belowK_b (by simp)) (Below.refl _ _) (fun _ => rfl)
    (fun pre W => (∃ v, Boxed W w.heap.size 35 v ∧ W.ownsRow w.heap.size 3 1 v pre.length (natV pre)) ∧ Below w.heap.size w W)
    (fun _ _ _ => False)
    ?hI (fun _ _ _ _ _ h _ _ => h.elim) ⟨⟨_, bl0, World.ownsRow_nil _ _ _ _⟩, hB0⟩ ?a1 ?assign ?body ?done ?stop
  case hI =>
    intro s A B row ⟨⟨v, h1, h2⟩, h3⟩ hg hr
    obtain ⟨v', h4, h5, _⟩ := ((holdsRow_own w.heap.size w.heap.size 35 3 1 (fun pre : List Nat => pre.length) natV (fun pre v => True)).from _) s A B row ⟨v, h1, h2, trivial⟩ hg hr
    exact ⟨⟨v', h4, h5⟩, ownFrom_below (β := Unit) (Nat.le_refl _) (by simp) () A B row h3 hg hr⟩
  case assign =>
    intro l x W K hK
    gi_wp2
    exact hK
  case body =>
    rintro l pre x W ⟨⟨v, hv, hrow⟩, hB⟩ hlen2
    have c1 := hv.cell
    have f1 := hv.frozen
    have hpl : pre.length + 1 ≤ 800000 := by have := HN.out; omega
    clear hlen2
    gi_wp2_with (gi_at_builtin; refine wpListIn_append_own _ rfl _ _ 35 rfl w.heap.size 3 i0 (.int .i64 0) 1 8 Try.underlying35 hi hz0 hz1 hz2 rfl (by decide) _ _ _ rfl (hrow.alloc _) ⟨W.heap.size, 0, none⟩ 1 1 [.int .i64 (x : Int)] rfl rfl (cell_new1 _ _ _) (by simp [Value.oneCell']) (by unfold maxLen; omega) (by omega) (by have := hB.size; simp; omega) ?_; intro v' w1 hown' hgrow _; obtain ⟨g', cap', rfl⟩ := ownsRow_succ hown'; obtain ⟨hv1, hv2, hr2, hk2, hb2⟩ := hv.appended (by decide) hrow hB.size (Nat.le_refl _) hown' hgrow; have hc1 := hv1.cell; have hf1 := hv1.frozen)
    exact ⟨hk2, hb2, ⟨⟨_, hv2, by rw [natV_snoc, List.length_append]; exact hr2⟩, hB.trans hb2⟩⟩
  case done =>
    rintro Dd xs W hDd rfl ⟨⟨v, hv, hrow⟩, hB⟩ hK
    have c1 := hv.cell
    gi_wp2
    refine ⟨by simp, .inl ⟨_, _, rfl, run_takeDeferred hK, ?_⟩⟩
    exact ⟨_, results_tmp rfl _ _ _, v, rfl, ownsRow_putObj hrow _ hK rfl, hB.trans (belowK_b (w := w) (Nat.le_refl _) W Dd _ _ (by simp at hDd; omega) hK rfl rfl)⟩
  case stop =>
    rintro D c pre W _ _ h _
    exact h.elim

set_option maxRecDepth 100000 in
set_option maxHeartbeats 2000000 in
/-- **All**. -/
theorem bi_all (v : Value) (bs : List Int) (w : World) (hv : Sl .u8 w v bs) (hb : IsBytes bs) (hlen : bs.length ≤ 100000) :
    Calls Try.prog 19 #[v] w fun e w' => ∃ v', e = .returned v' ∧ w'.ownsRow w.heap.size 3 1 v' (allB bs).length (natV (allB bs)) ∧ Below w.heap.size w w' := by
  obtain ⟨a, cap, rfl, hL, hm⟩ := Lies.of_sl hv
  obtain ⟨len, hle⟩ : ∃ len, bs.length = len := ⟨_, rfl⟩
  rw [hle] at hL hlen ⊢
  obtain ⟨W1, hW1⟩ : ∃ W1, w.alloc (.cells #[.slice a len cap] 31) = W1 := ⟨_, rfl⟩
  have hB1 : Below w.heap.size w W1 := by rw [← hW1]; exact (Below.refl _ w).alloc (Nat.le_refl _) _
  have hsz : w.heap.size < W1.heap.size := by rw [← hW1]; simp
  have hbx : W1.cell? ⟨w.heap.size, 0, none⟩ = some (.slice a len cap) := by rw [← hW1]; exact (Boxed.new w _ _).cell
  have HC : Hid (Calls Try.prog 44 #[.func (.func 62) #[] #[.pointer (some ⟨w.heap.size, 0, none⟩)]] W1 fun e w' => ∃ v', e = .returned v' ∧ w'.ownsRow W1.heap.size 3 1 v' (allB bs).length (natV (allB bs)) ∧ Below W1.heap.size W1 w') := by
    have HP := Lib.hid (bi_append w.heap.size len cap a bs hle hb hlen W1 hsz hbx (hL.imp id fun ⟨b, off, e, h1, h2⟩ => ⟨b, off, e, Nat.lt_trans h1 hsz, fun j hj => (hB1.cell (p := ⟨b, off + j, none⟩) h1).trans (h2 j hj)⟩))
    clear hv hb hL
    show Calls _ _ _ _ _
    go_enter Try.func44, Try.ntmps44
    go_wp2_with fail
    refine HP.out.mono ?_
    rintro e w1 ⟨v', rfl, ho, hB⟩
    have HO := Lib.hid ho
    have HB := Lib.hid hB
    clear ho hB HP
    go_wp2_with fail
    go_ret
    exact ⟨_, rfl, HO.out, HB.out⟩
  have HB1 := Lib.hid hB1
  have HSZ := Lib.hid hsz
  clear hv hb hL hm hle hbx hB1 hsz hlen
  go_enter Try.func19, Try.ntmps19
  go_wp2_with fail
  refine (callsIn_wide.1 (numbers_in Fence.wide 3 trivial rfl a len cap w)).mono ?_
  rintro e w' ⟨rfl, hw'⟩
  obtain rfl : w' = W1 := hw'.trans hW1
  clear hw' hW1
  go_wp2_with fail
  refine HC.out.mono ?_
  rintro e w2 ⟨v', rfl, ho, hB⟩
  have HO := Lib.hid ho
  have HB := Lib.hid hB
  clear ho hB HC
  go_wp2_with fail
  go_ret
  exact ⟨_, rfl, own_mono HO.out (Nat.le_of_lt HSZ.out), HB1.out.trans (HB.out.mono (Nat.le_of_lt HSZ.out))⟩

set_option maxRecDepth 100000 in
theorem load_bool {w : World} {B : Nat} {b : Bool} (h : w.cell? ⟨B, 0, none⟩ = some (.bool b)) : (loadVar 4 ⟨B, 0, none⟩).run Try.prog w = .ok (.bool b) w := by simp [go_sem, h]
theorem good_yes {bs : List Int} {n : Int} (h1 : bs.length = sizeB n) (h2 : ∀ y ∈ allB bs, (y : Int) < n) : goodB bs n = true := by
  unfold goodB
  rw [decide_eq_true h1, Bool.true_and, List.all_eq_true]
  exact fun y hy => decide_eq_true (h2 y hy)
theorem good_no1 {bs : List Int} {n : Int} (h1 : bs.length ≠ sizeB n) : goodB bs n = false := by
  unfold goodB
  rw [decide_eq_false h1, Bool.false_and]
theorem good_no2 {bs : List Int} {n : Int} {y : Nat} (h : y ∈ allB bs) (h2 : n ≤ (y : Int)) : goodB bs n = false := by
  unfold goodB
  have : (allB bs).all (fun i => decide ((i : Int) < n)) = false := by
    rw [List.all_eq_false]
    exact ⟨y, h, by simp; omega⟩
  rw [this, Bool.and_false]

set_option maxRecDepth 100000 in
set_option maxHeartbeats 2000000 in
/-- **Good**. -/
theorem bi_good (v : Value) (bs : List Int) (n : Int) (w : World) (hv : Sl .u8 w v bs) (hb : IsBytes bs) (hlen : bs.length ≤ 100000) :
    Calls Try.prog 55 #[v, .int .i64 n] w fun e w' => e = .returned (.bool (goodB bs n)) ∧ Below w.heap.size w w' := by
  obtain ⟨a, cap, rfl, hL, hm⟩ := Lies.of_sl hv
  obtain ⟨len, hle⟩ : ∃ len, bs.length = len := ⟨_, rfl⟩
  rw [hle] at hL hlen ⊢
  have HA := Lib.hid hL
  have HR := Lib.hid hb
  have HL := Lib.hid hle
  have HS := fun W => Lib.hid (bi_size n W)
  obtain ⟨s, hs⟩ : ∃ s, sizeB n = s := ⟨_, rfl⟩
  have HSZ := Lib.hid hs
  simp only [hs] at HS
  have HLN := Lib.hid hlen
  clear hL hm hb hle hv hs hlen
  have bN := Boxed.new w 3 (.int .i64 n)
  obtain ⟨W0, hW0⟩ : ∃ W0, (w.alloc (.cells #[.int .i64 n] 3)).alloc (.cells #[.bool false] 4) = W0 := ⟨_, rfl⟩
  obtain ⟨B, hB⟩ : ∃ B, w.heap.size = B := ⟨_, rfl⟩
  have b0 : Boxed W0 B 3 (.int .i64 n) := by rw [← hW0, ← hB]; exact bN.alloc _
  have b1 : Boxed W0 (B + 1) 4 (.bool false) := by
    rw [← hW0, ← hB]
    have := Boxed.new (w.alloc (.cells #[.int .i64 n] 3)) 4 (.bool false)
    rwa [World.size_alloc] at this
  have hB0 : Below B w W0 := by rw [← hW0, ← hB]; exact ((Below.refl _ w).alloc (Nat.le_refl _) _).alloc (by simp) _
  have hsz : W0.heap.size = B + 2 := by rw [← hW0, ← hB]; simp
  have HB0 := Lib.hid hB0
  clear bN hB0
  subst hB
  by_cases h : len = s
  · have hne : ((len : Int) != (s : Int)) = false := by simp; omega
    have HQ : Hid (bs.length = sizeB n) := by show _ = _; rw [HL.out, HSZ.out, h]
    clear h
    refine (callsIn_wide (n := 3)).1 ?_
    refine callsIn_of_wp_marks Try.func55 rfl trivial ?_ rfl
    simp only [Try.ntmps55, List.size_toArray, List.length_cons, List.length_nil, Nat.reduceAdd, Nat.reduceSub, Array.replicate_succ, Array.replicate_zero, List.push_toArray, List.append_toArray, List.nil_append, List.cons_append]
    have c0 := b0.cell
    have c1 := b1.cell
    have f1 := b1.frozen
    gi_wp2_with (refine ⟨trivial, ?_⟩; gi_at_call 67; refine (callsIn_wide.2 (HS _).out).mono ?_; rintro e w' ⟨rfl, hw'⟩; obtain rfl := hw'.symm)
    gi_wp2_with (refine ⟨trivial, ?_⟩; gi_at_call 45; refine (numbers_in _ _ trivial rfl _ _ _ _).mono ?_; rintro e w' ⟨rfl, rfl⟩)
    have bV := Boxed.new W0 31 (.slice a len cap)
    rw [hsz] at bV
    have hB1 : Below w.heap.size w (W0.alloc (.cells #[.slice a len cap] 31)) := HB0.out.alloc (by omega) _
    have hl0 := (HA.out.imp id fun ⟨b, off, e, h1, h2⟩ => ⟨b, off, e, h1, fun j hj => (hB1.cell (p := ⟨b, off + j, none⟩) h1).trans (h2 j hj)⟩ : len = 0 ∨ ∃ b off, a = some ⟨b, off, none⟩ ∧ b < w.heap.size ∧ ∀ j, j < len → (W0.alloc (.cells #[.slice a len cap] 31)).cell? ⟨b, off + j, none⟩ = some (.int .u8 (bs[j]?.getD 0)))
    clear c0 c1 f1 hW0
    refine wpIn_rangeFunc_ownF (n := 3) rfl (by omega) (gf := 62) (lb := #[.pointer (some ⟨w.heap.size + 2, 0, none⟩)]) rfl trivial (enters_of Try.func62 (by kernel_rfl) rfl)
      (numbers_stops 2 (by omega) (w.heap.size + 2) w.heap.size len cap a bs HL.out HR.out HLN.out _ (by simp; omega) (by simp; omega) bV.cell hl0) belowK_t (belowK_b (by simp; omega)) (Below.refl _ _) (fun _ => rfl)
      (fun pre W => Boxed W w.heap.size 3 (.int .i64 n) ∧ Boxed W (w.heap.size + 1) 4 (.bool false) ∧ Below w.heap.size w W ∧ ∀ y ∈ pre, (y : Int) < n)
      (fun c pre W => c = .ret ∧ Boxed W (w.heap.size + 1) 4 (.bool false) ∧ Below w.heap.size w W ∧ ∃ y ∈ pre, n ≤ (y : Int))
      ?hI ?hIx ⟨b0.alloc _, b1.alloc _, hB1, fun y hy => by cases hy⟩ ?a1 ?assign ?body ?done ?stop
    case hI =>
      intro s X Y row ⟨h1, h2, h3, h4⟩ hg hr
      exact ⟨boxed_own _ _ (fun _ : Unit => _) () X Y row h1 hg (fun r e => (hr r e).2), boxed_own _ _ (fun _ : Unit => _) () X Y row h2 hg (fun r e => (hr r e).2), ownFrom_below (β := Unit) (by omega) (by simp; omega) () X Y row h3 hg hr, h4⟩
    case hIx =>
      intro c s X Y row ⟨h1, h2, h3, h4⟩ hg hr
      exact ⟨h1, boxed_own _ _ (fun _ : Unit => _) () X Y row h2 hg (fun r e => (hr r e).2), ownFrom_below (β := Unit) (by omega) (by simp; omega) () X Y row h3 hg hr, h4⟩
    case assign =>
      intro l x W K hK
      gi_wp2
      exact hK
    case body =>
      rintro l pre x W ⟨h1, h2, h3, h4⟩ hlen2
      have d1 := h1.cell
      have d2 := h2.cell
      have g2 := h2.frozen
      have H1 := Lib.hid h1
      have H2 := Lib.hid h2
      have H3 := Lib.hid h3
      have H4 := Lib.hid h4
      clear h1 h2 h3 h4 hlen2
      by_cases q : n ≤ (x : Int)
      · have q1 : decide (n ≤ (x : Int)) = true := decide_eq_true q
        have HQx := Lib.hid q
        gi_wp2
        exact ⟨KeepsOthers.setCell _ _ _, rfl, H2.out.set _, H3.out.setCell (p := ⟨w.heap.size + 1, 0, none⟩) (by simp) _, x, by simp, HQx.out⟩
      · have q1 : decide (n ≤ (x : Int)) = false := decide_eq_false q
        have HQx : Hid ((x : Int) < n) := Int.not_le.1 q
        gi_wp2
        refine ⟨KeepsOthers.refl _, Below.refl _ _, H1.out, H2.out, H3.out, fun y hy => ?_⟩
        rcases List.mem_append.1 hy with hy | hy
        · exact H4.out y hy
        · rw [List.mem_singleton.1 hy]; exact HQx.out
    case done =>
      rintro D xs W hD rfl ⟨h1, h2, h3, h4⟩ hK
      have d2 := h2.cell
      have g2 := h2.frozen
      have HE := Lib.hid (good_yes HQ.out h4)
      have H2 := Lib.hid h2
      have H3 := Lib.hid h3
      have HK := Lib.hid hK
      clear h1 h2 h3 h4 hK
      gi_wp2
      have hb2 := H2.out.set (.bool true)
      have hK2 : (W.setCell ⟨w.heap.size + 1, 0, none⟩ (.bool true)).heap[D]? = some (.deferred (some [])) := by
        rw [Below.heap_setCell _ _ _ _ (by simp at hD ⊢; omega)]; exact HK.out
      refine ⟨by simp, .inl ⟨_, _, rfl, run_takeDeferred hK2, ?_⟩⟩
      have hg2 := grownBy_putObj' (W.setCell ⟨w.heap.size + 1, 0, none⟩ (.bool true)) D (.deferred none)
      have hb3 := boxed_own _ _ (fun _ : Unit => _) () _ _ _ hb2 hg2 (fun r e => by cases e; exact ⟨_, hK2, rfl⟩)
      refine ⟨_, results_cell rfl rfl (load_bool hb3.cell), by rw [HE.out], ?_⟩
      exact (H3.out.setCell (p := ⟨w.heap.size + 1, 0, none⟩) (by simp) _).trans (belowK_b (w := w) (Nat.le_refl _) _ D _ _ (by simp at hD; omega) hK2 rfl rfl)
    case stop =>
      rintro D c pre W hD hpre ⟨rfl, h2, h3, y, hy, hyn⟩ hK
      have HE := Lib.hid (good_no2 (hpre.subset hy) hyn)
      have H2 := Lib.hid h2
      have H3 := Lib.hid h3
      have HK := Lib.hid hK
      clear h2 h3 hK hy hyn hpre
      gi_wp2
      refine ⟨by simp, .inl ⟨_, _, rfl, run_takeDeferred HK.out, ?_⟩⟩
      have hg2 := grownBy_putObj' W D (.deferred none)
      have hb3 := boxed_own _ _ (fun _ : Unit => _) () _ _ _ H2.out hg2 (fun r e => by cases e; exact ⟨_, HK.out, rfl⟩)
      refine ⟨_, results_cell rfl rfl (load_bool hb3.cell), by rw [HE.out], ?_⟩
      exact H3.out.trans (belowK_b (w := w) (Nat.le_refl _) W D _ _ (by simp at hD; omega) HK.out rfl rfl)
  · have hne : ((len : Int) != (s : Int)) = true := by simp; omega
    rw [good_no1 (by rw [HL.out, HSZ.out]; exact h)]
    have c0 := b0.cell
    have c1 := b1.cell
    have f1 := b1.frozen
    clear h
    go_enter Try.func55, Try.ntmps55
    go_wp2_with (go_at_call 67; refine (HS _).out.mono ?_; rintro e w' ⟨rfl, hw'⟩; obtain rfl := hw'.symm)
    refine bodyPost_ret (results_cell rfl rfl (load_bool (b1.set (.bool false)).cell)) rfl ⟨rfl, ?_⟩
    exact HB0.out.setCell (p := ⟨w.heap.size + 1, 0, none⟩) (by simp) _
end Go.Proofs.Ytiidfffedoekiaa
