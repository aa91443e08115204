/- The ground of the proofs, part 4. -/
import Derived.Test.YtbdfllamhcodjaaGreatH3
import Derived.RangeFuncNested
/- The developers' meta: home, encoded, takes, sectors, zeros. -/
namespace Go.Proofs.YtbdfllamhcodjaaGreat
open Go.RowKit Go.Shelf
set_option linter.unusedVariables false
/-- Whatever is no block, no body, no sector, no image, no log and no write of the developers' is read and written cell by cell. -/
theorem loadVar_openV (t : TypeId) (h : t ≠ 60 ∧ t ≠ 189 ∧ t ≠ 112 ∧ t ≠ 133 ∧ t ≠ 157 ∧ t ≠ 114 ∧ t ≠ 105 ∧ t ≠ 23) (a : Addr) : loadVar t a = (do if ← isAgg t then pure (.agg (← loadCells a (← sizeOf t))) else load a) := rfl
theorem storeVar_openV (t : TypeId) (h : t ≠ 60 ∧ t ≠ 189 ∧ t ≠ 112 ∧ t ≠ 133 ∧ t ≠ 157 ∧ t ≠ 114 ∧ t ≠ 105 ∧ t ≠ 23) (a : Addr) (v : Value) : storeVar t a v = (do
    if v.cells.size ≠ (← sizeOf t) then stuck "storeVar: the value has not the size of the variable"
    storeCells a v.cells.toList) := rfl
set_option maxRecDepth 100000 in
theorem info_bod1 : (Tryz.prog.info? 112).map (·.size) = some 48 := by kernel_rfl
set_option maxRecDepth 100000 in
theorem store_new_bod {w : World} {c : Array Value} {c' : List Value} (h : c.size = 48) (h' : c'.length = 48) (h1 : ∀ v ∈ c', v.oneCell' = true) : (storeVar 112 ⟨w.heap.size, 0, none⟩ (.agg c'.toArray)).run Tryz.prog (w.alloc (.cells c 112)) = .ok () (w.alloc (.cells c'.toArray 112)) :=
  run_storeVar_new w _ c c'.toArray (by simpa [h'] using info_bod1) (by simpa [h'] using h) (all_oneCell_toArray h1)
set_option maxRecDepth 100000 in
theorem new_bod (x : World) {b : List Int} (hb : b.length = 48) : ∃ y, (storeVar 112 ⟨x.heap.size, 0, none⟩ (.agg (u8s b).toArray)).run Tryz.prog (x.alloc (.cells z48.toArray 112)) = .ok () y ∧ RowC y x.heap.size 112 (u8s b) ∧ Below x.heap.size x y :=
  ⟨_, store_new_bod (by simp [z48, u8s]) (by rw [u8s_length, hb]) (u8s_one b), RowC.new x _ _, below_new x _⟩
set_option maxRecDepth 100000 in
theorem RowC.body {x : World} {B : Nat} {t : TypeId} {b : List Int} (h : RowC x B t (u8s b)) (hb : b.length = 48) : (loadVar 112 ⟨B, 0, none⟩).run Tryz.prog x = .ok (.agg (u8s b).toArray) x := load_bod h.range (by rw [u8s_length, hb])

attribute [-simp] Tryz.isAgg60 Tryz.zeroValue60 Tryz.isAgg112 Tryz.zeroValue112 Tryz.isAgg189 Tryz.zeroValue189 Tryz.isAgg133 Tryz.zeroValue133 Tryz.isAgg114 Tryz.zeroValue114
attribute [-go_sem] loadVar storeVar run_equalIn_agg
attribute [local go_sem] zero_blk build_blk zero_bod zero_pg build_pg build_pg0 zero_imgD zero_wr loadVar_openV storeVar_openV
section
set_option maxRecDepth 100000
set_option maxHeartbeats 4000000
set_option maxRecDepth 100000 in
/-- **home**. -/
theorem mvHome (i : Int) {b : List Int} (hb : b.length = 48) (w : World) :
    Calls Tryz.prog 100 #[.int .i64 i, .agg (u8s b).toArray] w fun e w' => e = .returned (.agg (Value.int .u8 72 :: .int .u32 0 :: .int .i64 i :: u8s b).toArray) ∧ Below w.heap.size w w' := by
  obtain ⟨W1, hW1⟩ : ∃ W1, w.alloc (.cells (u8s b).toArray 112) = W1 := ⟨_, rfl⟩
  have r1 : RowC W1 w.heap.size 112 (u8s b) := by rw [← hW1]; exact RowC.new w _ _
  have b1 : Below w.heap.size w W1 := by rw [← hW1]; exact below_new w _
  obtain ⟨W, hW⟩ : ∃ W, W1.alloc (.cells zcs.toArray 189) = W := ⟨_, rfl⟩
  have b2 : Below W1.heap.size W1 W := by rw [← hW]; exact below_new W1 _
  have r2 : W.heap[W1.heap.size]? = some (.cells zcs.toArray 189 (0, 0)) := by rw [← hW]; exact heap_alloc_new W1 _
  have L0 := (r1.below b2).body hb
  have BI : Hid ((Instr.build 189 #[(0, .int .u8 72), (1, .int .u32 0), (2, .int .i64 i), (3, .agg (u8s b).toArray)]).run Tryz.prog W = .ok (.agg (Value.int .u8 72 :: .int .u32 0 :: .int .i64 i :: u8s b).toArray) W) := build_pg4 72 0 i (u8s b) (by rw [u8s_length]; exact hb) W
  obtain ⟨x, ST, ld, hbx⟩ := pg_cell (w := w) (x := W) (B := W1.heap.size) (u := Value.int .u8 72 :: .int .u32 0 :: .int .i64 i :: u8s b) r2 zcs_len b1.size (b1.trans (b2.mono b1.size)) (by simp [u8s_length, hb]) (Sct.cells_one ⟨72, 0, i, b⟩)
  have HL := Lib.hid ld
  have HX := Lib.hid hbx
  clear r1 b1 b2 r2 ld hbx
  go_enter Tryz.func100, Tryz.ntmps100
  go_wp2_with (first | ((with_reducible refine gate_struct 189 ?_); refine wpList_struct_run _ _ rfl rfl [(0, .int .u8 72), (1, .int .u32 0), (2, .int .i64 i), (3, .agg (u8s b).toArray)] _ rfl BI.out ?_))
  exact bodyPost_ret (results_cell rfl rfl HL.out) rfl ⟨rfl, HX.out⟩
set_option maxRecDepth 100000 in
/-- **encoded**. -/
theorem mvEncoded (p : Sct) (hp : p.Ok) (hf : p.fits = true) (w : World) :
    Calls Tryz.prog 99 #[.agg p.cells.toArray] w fun e w' => e = .returned (.agg (u8s p.bytes).toArray) ∧ Below w.heap.size w w' := by
  obtain ⟨W1, hW1⟩ : ∃ W1, w.alloc (.cells p.cells.toArray 189) = W1 := ⟨_, rfl⟩
  have r1 : RowC W1 w.heap.size 189 p.cells := by rw [← hW1]; exact RowC.new w _ _
  have b1 : Below w.heap.size w W1 := by rw [← hW1]; exact below_new w _
  obtain ⟨W, hW⟩ : ∃ W, W1.alloc (.cells zarr 60) = W := ⟨_, rfl⟩
  have b2 : Below W1.heap.size W1 W := by rw [← hW]; exact below_new W1 _
  have r2 : Hid (W.heap[W1.heap.size]? = some (.cells zarr 60 (0, 0))) := by show _ = _; rw [← hW]; exact heap_alloc_new W1 _
  have L0 := (r1.below b2).pg hp.len
  have HB : Hid (Below w.heap.size w W) := b1.trans (b2.mono b1.size)
  have HZ : Hid (W1.heap.size < W.heap.size) := by show _ < _; rw [← hW]; simp
  have HS1 := Lib.hid b1.size
  have HP := Lib.hid hp
  have HC : Hid (p.code = u8s p.bytes ∧ p.codeE = 0) := by refine (?_ : _ ∧ _); unfold Sct.code Sct.codeE; rw [if_pos hf, if_pos hf]; exact ⟨rfl, rfl⟩
  clear r1 b1 b2 hp hf
  go_enter Tryz.func99, Tryz.ntmps99
  go_wp2_with fail
  go_at_call 135
  refine (pgEncode p HP.out W).mono ?_
  rintro e x1 ⟨rfl, hb⟩
  rw [HC.out.1, HC.out.2]
  have hbk : IsBlk (u8s p.bytes) := isBlk_u8s (Sct.bytes_length HP.out)
  obtain ⟨x2, ST, hr, hb2⟩ := new_blk x1 hbk
  have L2 := hr.blk hbk.length
  have b3 : Below W.heap.size W x2 := hb.trans (hb2.mono hb.size)
  obtain ⟨x3, st3, ld, hb3⟩ := blk_cell (w := w) (x := x2) (B := W1.heap.size) (u := u8s p.bytes) ((b3.block _ HZ.out).trans r2.out) zarr_size HS1.out (HB.out.trans (b3.mono HB.out.size)) hbk
  have HL := Lib.hid ld
  have HX := Lib.hid hb3
  clear hb hr hb2 b3 ld hb3 hW hW1 L0
  go_wp2_with fail
  exact bodyPost_ret (results_cell rfl rfl HL.out) rfl ⟨rfl, HX.out⟩
set_option maxRecDepth 100000 in
/-- **takes**. -/
theorem mvTakes (a : Option Addr) (n c : Nat) (hn : n ≤ 1000000) (w : World) :
    Calls Tryz.prog 64 #[.slice a n c] w fun e w' => e = .returned (.int .i64 ((n : Int) + 1)) ∧ w' = w := by
  go_enter Tryz.func64, Tryz.ntmps64
  go_wp2
  go_ret
  exact ⟨rfl, rfl⟩
/-- Transactions, as they are read. -/
theorem TxnsR.row {x : World} {N : Nat} {v : Value} {ts : List (List Img)} {eS eI : TypeId} (h : TxnsR eS eI x N v ts) : ∃ a c, v = .slice a ts.length c ∧ ∀ (i : Nat) (t : List Img), ts[i]? = some t → ∃ g b d, a = some ⟨g, 0, none⟩ ∧ g < x.heap.size ∧ x.cell? ⟨g, i, none⟩ = some (.slice b t.length d) ∧ x.ownsRow N eI 49 (.slice b t.length d) t.length (imgR t).flatten := by
  obtain ⟨vs, h1, h2, h3⟩ := h
  obtain ⟨a, c, rfl, h4⟩ := row_lenT h2
  refine ⟨a, c, by rw [h1], fun i t ht => ?_⟩
  have hi : i < ts.length := (List.getElem?_eq_some_iff.1 ht).1
  obtain ⟨g, rfl, h5, h6⟩ := h4 (by omega)
  obtain ⟨u, hu⟩ : ∃ u, vs[i]? = some u := ⟨_, List.getElem?_eq_getElem (by omega)⟩
  have h7 := h3 i u t hu ht
  obtain ⟨b, d, rfl, _⟩ := row_lenT h7
  have h8 := h6 i _ hu
  rw [Nat.zero_add] at h8
  exact ⟨g, b, d, rfl, h5, h8, h7⟩
theorem usedBy_take {ts : List (List Img)} {k : Nat} {t : List Img} (h : ts[k]? = some t) : usedBy (ts.take (k + 1)) = usedBy (ts.take k) + (t.length + 1) := by
  rw [List.take_add_one, h]
  exact usedBy_snoc _ _
theorem usedBy_le (ts : List (List Img)) (k : Nat) : usedBy (ts.take k) ≤ usedBy ts := by
  conv => rhs; rw [← List.take_append_drop k ts]
  unfold usedBy
  rw [List.map_append, List.sum_append]
  omega
theorem len_usedBy : ∀ ts : List (List Img), ts.length ≤ usedBy ts
  | [] => Nat.zero_le _
  | t :: ts => by
    have := len_usedBy ts
    unfold usedBy at this ⊢
    rw [List.map_cons, List.sum_cons, List.length_cons]
    omega
set_option maxRecDepth 100000 in
/-- **sectors**. -/
theorem mvSectors (v : Value) (ts : List (List Img)) (w : World) {N : Nat} (h : TxnsR 130 133 w N v ts) (hl : usedBy ts ≤ 1000000) :
    Calls Tryz.prog 82 #[v] w fun e w' => e = .returned (.int .i64 ((usedBy ts : Nat) : Int)) ∧ w' = w := by
  obtain ⟨a, c, rfl, h3⟩ := h.row
  have H3 := Lib.hid h3
  have HL := Lib.hid hl
  obtain ⟨n, hn⟩ : ∃ n, ts.length = n := ⟨_, rfl⟩
  have HN := Lib.hid hn
  have hn6 : n ≤ 1000000 := by have := len_usedBy ts; omega
  rw [hn]
  clear h h3 hl hn
  go_enter Tryz.func82, Tryz.ntmps82
  go_wp2_with fail
  go_loop [3, 8] (fun s i => ∃ k : Nat, k ≤ n ∧ i = .int .i64 (k : Int) ∧ s = .int .i64 (((usedBy (ts.take k) : Nat)) : Int)) (fun _ i => n - (intOf i).toNat)
  case atStart => exact ⟨0, Nat.zero_le _, rfl, rfl⟩
  case round =>
    obtain ⟨k, hk, rfl, rfl⟩ := hrel
    by_cases hlt : k < n
    · have g3 : decide ((k : Int) < (n : Int)) = true := by simpa using hlt
      obtain ⟨t, ht⟩ : ∃ t, ts[k]? = some t := ⟨_, List.getElem?_eq_getElem (by rw [HN.out]; exact hlt)⟩
      obtain ⟨g, b, d, rfl, h5, c0, h7⟩ := H3.out k t ht
      have hu := usedBy_take ht
      have hle := Nat.le_trans (usedBy_le ts (k + 1)) HL.out
      rw [hu] at hle
      have HU := Lib.hid hu
      obtain ⟨m, hm⟩ : ∃ m, usedBy (ts.take k) = m := ⟨_, rfl⟩
      obtain ⟨q, hq⟩ : ∃ q, t.length = q := ⟨_, rfl⟩
      rw [hm, hq] at hle HU
      rw [hq] at c0
      rw [hm]
      have hb1 : (m : Int) + (q : Int) ≤ 1000000 := by omega
      have hq0 : q ≤ 1000000 := by omega
      clear h5 h7 ht hu hm hq
      go_wp2_with fail
      go_at_call 64
      refine (mvTakes b q d hq0 w).mono ?_
      rintro e x ⟨rfl, hx⟩
      obtain rfl := hx.symm
      clear hx
      go_wp2_with fail
      go_round
      case rel => exact ⟨k + 1, hlt, by go_num, by rw [HU.out]; simp⟩
      case measure => simp [intOf]; omega
    · have g3 : decide ((k : Int) < (n : Int)) = false := by simpa using hlt
      obtain rfl : k = n := by omega
      have e1 : ts.take k = ts := List.take_of_length_le (by rw [HN.out]; exact Nat.le_refl _)
      rw [e1]
      go_wp2_with fail
      go_ret
      exact ⟨rfl, rfl⟩
/-- Sectors that are filled with zeros. -/
def zsW (F n : Nat) : Wrs := (List.range n).map fun i => (F + i, fillB 0)
theorem zsW_length (F n : Nat) : (zsW F n).length = n := by simp [zsW]
set_option maxRecDepth 100000 in
/-- **zeros**. -/
theorem mvZeros {F n : Nat} (hF : F ≤ 100000) (hn : n ≤ 100000) (w : World) :
    Calls Tryz.prog 49 #[.int .i64 (F : Int), .int .i64 (n : Int)] w fun e w' => ∃ v, e = .returned v ∧ w'.ownsRow w.heap.size 114 65 v (wrR (zsW F n)).length (wrR (zsW F n)).flatten ∧ Below w.heap.size w w' := by
  go_enter Tryz.func49, Tryz.ntmps49
  go_wp2_with fail
  go_loopw [5, 8] (fun l i wr => ∃ k : Nat, k ≤ n ∧ i = .int .i64 (k : Int) ∧ Hid (wr.ownsRow w.heap.size 114 65 l (wrR (zsW F k)).length (wrR (zsW F k)).flatten) ∧ Hid (Below w.heap.size w wr)) (fun _ i _ => n - (intOf i).toNat)
  case atStart => exact ⟨0, Nat.zero_le _, rfl, World.ownsRow_nil _ _ _ _, Below.refl _ _⟩
  case round =>
    obtain ⟨k, hk, rfl, HO, HB⟩ := hrel
    by_cases hlt : k < n
    · have g3 : decide ((k : Int) < (n : Int)) = true := by simpa using hlt
      have hwr : (wrC (F + k, fillB 0)).length = 65 := wrC_length (by simp [fillB])
      have h1 : ∀ v ∈ wrC (F + k, fillB 0), v.oneCell' = true := wrC_one (isBlk_fill 0)
      have BI : Hid ((Instr.build 114 #[(0, .int .i64 ((F : Int) + (k : Int)))]).run Tryz.prog wr = .ok (.agg (wrC (F + k, fillB 0)).toArray) wr) := by
        have := build_wr1 ((F : Int) + (k : Int)) wr
        unfold wrC
        rw [Int.natCast_add]
        exact this
      obtain ⟨x4, hx4⟩ : ∃ y, wr.alloc (.cells (wrC (F + k, fillB 0)).toArray 114) = y := ⟨_, rfl⟩
      have SB : Hid ((Instr.buildSlice 106 1 #[(0, .agg (wrC (F + k, fillB 0)).toArray)]).run Tryz.prog wr = .ok (.slice (some ⟨wr.heap.size, 0, none⟩) 1 1) x4) := by show _ = _; rw [← hx4]; exact slice_wr wr _ hwr
      have b4 : Below wr.heap.size wr x4 := by rw [← hx4]; exact below_new wr _
      have B4 : Below w.heap.size w x4 := HB.out.trans (b4.mono HB.out.size)
      have O4 := own_below HO.out b4
      obtain ⟨v6, x6, r6, o6, g6, -⟩ := append_wr w.heap.size x4 u5 (wrR (zsW F k)) (wrC (F + k, fillB 0)) wr.heap.size O4 hwr h1 (row_range (t := 114) (by rw [← hx4]; exact heap_alloc_new wr _)) (by simp [wrR, zsW_length]; omega) B4.size
      have R6 := Lib.hid r6
      have B6 : Hid (Below w.heap.size w x6) := B4.grown g6 B4.size (fun j e => (O4.lt j e).1)
      have O6 : Hid (x6.ownsRow w.heap.size 114 65 v6 (wrR (zsW F (k + 1))).length (wrR (zsW F (k + 1))).flatten) := by
        have e : wrR (zsW F (k + 1)) = wrR (zsW F k) ++ [wrC (F + k, fillB 0)] := by
          unfold wrR zsW
          rw [zerosW, List.map_append]
          rfl
        show World.ownsRow _ _ _ _ _ _ _
        rw [e]
        exact o6
      obtain ⟨bv, hbv⟩ : ∃ bv, (wrC (F + k, fillB 0)).toArray = bv := ⟨_, rfl⟩
      rw [hbv] at BI SB
      clear hwr h1 hx4 b4 B4 O4 r6 o6 g6 hbv
      go_wp2_with (first | ((with_reducible refine gate_struct 114 ?_); refine wpList_struct_run _ _ rfl rfl [(0, .int .i64 ((F : Int) + (k : Int)))] _ rfl BI.out ?_) | ((with_reducible refine gate_build ?_); refine wpList_build_run _ _ _ rfl rfl [(0, .agg bv)] _ rfl SB.out ?_) | (at_builtin; refine wpList_append_run (.tmp 11) (.tmp 16) 106 rfl rfl _ _ _ rfl rfl R6.out ?_))
      go_roundw
      case rel => exact ⟨k + 1, hlt, by go_num, O6, B6⟩
      case measure => simp [intOf]; omega
    · have g3 : decide ((k : Int) < (n : Int)) = false := by simpa using hlt
      obtain rfl : k = n := by omega
      go_wp2_with fail
      go_ret
      exact ⟨_, rfl, HO.out, HB.out⟩
end
end Go.Proofs.YtbdfllamhcodjaaGreat

/- The developers' meta: store. -/
namespace Go.Proofs.YtbdfllamhcodjaaGreat
open Go.RowKit Go.Shelf
set_option linter.unusedVariables false
attribute [-simp] Tryz.isAgg60 Tryz.zeroValue60 Tryz.isAgg112 Tryz.zeroValue112 Tryz.isAgg189 Tryz.zeroValue189 Tryz.isAgg133 Tryz.zeroValue133 Tryz.isAgg114 Tryz.zeroValue114
attribute [-go_sem] loadVar storeVar run_equalIn_agg
attribute [local go_sem] zero_blk build_blk zero_bod zero_pg build_pg build_pg0 zero_imgD zero_wr loadVar_openV storeVar_openV

set_option maxRecDepth 100000 in
theorem new_wr (x : World) {c : List Value} (hl : c.length = 65) (h1 : ∀ v ∈ c, v.oneCell' = true) : ∃ y, (storeVar 114 ⟨x.heap.size, 0, none⟩ (.agg c.toArray)).run Tryz.prog (x.alloc (.cells zwr.toArray 114)) = .ok () y ∧ RowC y x.heap.size 114 c ∧ Below x.heap.size x y :=
  ⟨_, store_new_wr zwr_size hl h1, RowC.new x _ c, below_new x _⟩
set_option maxRecDepth 100000 in
theorem RowC.wrB {x : World} {B : Nat} {t : TypeId} {i : Nat} {b : List Value} (h : RowC x B t (wrC (i, b))) (hb : b.length = 64) : (loadVar 60 ⟨B, 1, none⟩).run Tryz.prog x = .ok (.agg b.toArray) x :=
  load_blk (row_part (a := [.int .i64 (i : Int)]) (b := b) h) hb
set_option maxRecDepth 100000 in
set_option maxHeartbeats 4000000 in
/-- **store**. -/
theorem mvStore {rb p0 p1 : Nat} {S : RS} {w : World} {f : Nat → Prop} (h : RigR rb p0 p1 S w f) (hfu : S.fuse ≤ 2000000) (hd : 0 ≤ S.done ∧ S.done ≤ 950000) {m : Nat} (hf : S.Few m) (hm : m ≤ 253) {l : Wrs} (hin : ∀ x ∈ l, x.1 < S.n0) (hnd : (l.map (·.1)).Nodup) (hbk : ∀ x ∈ l, IsBlk x.2) (hll : l.length ≤ 1000) {v : Value} {N : Nat} (hv : w.ownsRow N 114 65 v (wrR l).length (wrR l).flatten) (hvf : ∀ g, v.ownBlock = some g → ¬ f g) :
    Calls Tryz.prog 54 #[.pointer (some ⟨rb, 0, none⟩), v] w fun e w' => e = .returned (.int .i64 (S.st l).2) ∧ ∃ f', RigR rb p0 p1 (S.st l).1 w' f' ∧ Turn f f' w w' := by
  obtain ⟨T, hT⟩ : ∃ T : Nat → RS × Bool, T = fun k => S.wrs (l.take k) := ⟨_, rfl⟩
  have hT' : ∀ k, T k = S.wrs (l.take k) := fun k => by rw [hT]
  have HW : Hid (∀ k, (T k).1.Fit ∧ (T k).1.Few 254 ∧ (T k).1.n0 = S.n0) := fun k => by
    have h1 : ∀ x ∈ l.take k, x.1 < S.n0 := fun x hx => hin x (List.mem_of_mem_take hx)
    obtain ⟨w1, w2, w3⟩ := RS.wrs_way (l.take k) S
    have hll : (l.take k).length ≤ 1000 := by rw [List.length_take]; omega
    rw [hT' k]
    exact ⟨RS.fit (by omega) (by omega) (by omega), (RS.wrs_few hf (by omega) h1 (List.Nodup.sublist (List.Sublist.map _ (List.take_sublist k _)) hnd)).mono (by omega), (S.wrs_spec _ h1).1.n0⟩
  have HS : Hid (∀ k i b, l[k]? = some (i, b) → (T k).2 = true → T (k + 1) = ((T k).1.write 0 ((i : Nat) : Int) b, decide ((T k).1.writeE 0 ((i : Nat) : Int) = 0))) := fun k i b hb ht => by
    rw [hT'] at ht
    rw [hT', hT', List.take_add_one, hb]
    exact RS.wrs_last _ S _ _ ht
  have HF : Hid (∀ k, (T k).2 = false → (S.st l) = ((T k).1, 14)) := fun k hk => by
    rw [hT'] at hk ⊢
    have e := RS.wrs_stop (l.take k) (l.drop k) S hk
    rw [List.take_append_drop] at e
    unfold RS.st
    rw [e, if_pos hk]
  have HE : Hid ((T l.length).2 = true → (S.st l) = ((T l.length).1.flush 0, (T l.length).1.flushE 0)) := fun hk => by
    rw [hT', List.take_length] at hk ⊢
    unfold RS.st
    rw [if_neg (by rw [hk]; simp)]
  have H0 : Hid (RigR rb p0 p1 (T 0).1 w f ∧ (T 0).2 = true) := by
    refine (?_ : _ ∧ _)
    rw [hT']
    exact ⟨h, rfl⟩
  obtain ⟨res, hres⟩ : ∃ res, S.st l = res := ⟨_, rfl⟩
  rw [hres] at HF HE ⊢
  have hwl : (wrR l).length = l.length := by simp [wrR]
  rw [hwl] at hv
  obtain ⟨a, c, rfl, hrow⟩ := row_lenT hv
  obtain ⟨n, hnn⟩ : ∃ n, l.length = n := ⟨_, rfl⟩
  rw [hnn] at HE hll hrow hvf ⊢
  have HROW := Lib.hid hrow
  have HVF := Lib.hid hvf
  have HNN := Lib.hid hnn
  have HIN := Lib.hid hin
  have HBK := Lib.hid hbk
  clear h hT hT' hnd hfu hd hf hm hin hbk hres hnn hv hrow hvf hwl
  go_enter Tryz.func54, Tryz.ntmps54
  go_wp2_with fail
  go_loopw [10] (fun i wr => ∃ (k : Nat) (f' : Nat → Prop), k ≤ n ∧ i = .int .i64 (k : Int) ∧ Hid ((T k).2 = true) ∧ Hid (RigR rb p0 p1 (T k).1 wr f') ∧ Hid (Turn f f' w wr)) (fun i _ => n - (intOf i).toNat)
  case atStart => exact ⟨0, f, Nat.zero_le _, rfl, H0.out.2, H0.out.1, Turn.refl _ _⟩
  case round =>
    obtain ⟨k, f1, hk, rfl, HK, HQ, HTU⟩ := hrel
    by_cases hlt : k < n
    · have g3 : decide ((k : Int) < (n : Int)) = true := by simpa using hlt
      obtain ⟨⟨i, b⟩, hb⟩ : ∃ b, l[k]? = some b := ⟨_, List.getElem?_eq_getElem (by rw [HNN.out]; exact hlt)⟩
      have hbl : IsBlk b := HBK.out (i, b) (List.mem_of_getElem? hb)
      have hb64 : b.length = 64 := hbl.length
      have hi0 : i < S.n0 := HIN.out (i, b) (List.mem_of_getElem? hb)
      obtain ⟨g, rfl, hgl, hg⟩ := HROW.out (by omega)
      have hgf : ¬ f g := HVF.out g rfl
      have hg' := rangeAt_same hg (HTU.out.out g hgl hgf)
      have LD : (loadVar 114 ⟨g, 0 + k * 65, none⟩).run Tryz.prog wr = .ok (.agg (wrC (i, b)).toArray) wr := load_wr (row_at (s := 65) (fun x hx => by obtain ⟨y, hy, rfl⟩ := List.mem_map.1 hx; exact wrC_length (HBK.out y hy).length) hg' (by show (wrR l)[k]? = _; unfold wrR; rw [List.getElem?_map, hb]; rfl)) (wrC_length hb64)
      rw [Nat.zero_add] at LD
      obtain ⟨x2, ST2, hr2, hb2⟩ := new_wr wr (wrC_length (x := (i, b)) hb64) (wrC_one hbl)
      have c0 : x2.cell? ⟨wr.heap.size, 0, none⟩ = some (.int .i64 (i : Int)) := hr2.cell 0 _ rfl
      have LB := hr2.wrB hb64
      have HSX := HS.out k i b hb HK.out
      obtain ⟨T2, hT2⟩ : ∃ T2, T (k + 1) = T2 := ⟨_, rfl⟩
      rw [hT2] at HSX
      have hway := HW.out k
      have HT2 : Hid (Turn f f1 w x2) := HTU.out.trans (Turn.of_below hb2)
      have HT2' := Lib.hid hT2
      have HWR : Hid (Calls Tryz.prog 23 #[.pointer (some ⟨rb, 0, none⟩), .int .i64 0, .int .i64 (i : Int), .agg b.toArray] x2 fun e w' => e = .returned (.int .i64 ((T k).1.writeE 0 (i : Int))) ∧ ∃ f', RigR rb p0 p1 T2.1 w' f' ∧ Turn f1 f' x2 w') := by
        have := (HQ.out.beside hb2).write hway.1 (hway.2.1.mono (by omega)) 0 (i : Int) hbl
        rw [HSX]
        exact this
      have hE : (T k).1.writeE 0 (i : Int) = 0 ∨ (T k).1.writeE 0 (i : Int) = 14 := by
        rcases ((T k).1.write0 (by rw [hway.2.2]; exact hi0) b).2 with ⟨_, e, _⟩ | ⟨_, e, _⟩
        · exact .inl e
        · exact .inr e
      obtain ⟨we, hwe⟩ : ∃ we, (T k).1.writeE 0 (i : Int) = we := ⟨_, rfl⟩
      rw [hwe] at HWR hE
      have hsx2 : T2.2 = decide (we = 0) := by rw [HSX, hwe]
      have HSX2 := Lib.hid hsx2
      obtain ⟨B, hB⟩ : ∃ B, wr.heap.size = B := ⟨_, rfl⟩
      rw [hB] at c0 LB ST2
      obtain ⟨bk, hbk⟩ : ∃ bk, b.toArray = bk := ⟨_, rfl⟩
      rw [hbk] at LB HWR
      obtain ⟨wc, hwc⟩ : ∃ wc, (wrC (i, b)).toArray = wc := ⟨_, rfl⟩
      rw [hwc] at LD ST2
      clear hb hbl hb64 hg' hr2 HSX hway hb2 hT2 hwe hsx2 hgf hgl hg hwc hbk
      go_wp2_with fail
      clear LD ST2 c0 LB hB
      go_at_call 23
      refine HWR.out.mono ?_
      rintro e x5 ⟨rfl, f5, g1, g2⟩
      have Q5 := Lib.hid g1
      have T5 := Lib.hid (HT2.out.trans g2)
      clear g1 g2 HWR HT2
      by_cases h0 : we = 0
      · subst h0
        have HK2 : Hid ((T (k + 1)).2 = true) := by show _ = _; rw [HT2'.out, HSX2.out]; rfl
        have Q6 : Hid (RigR rb p0 p1 (T (k + 1)).1 x5 f5) := by show RigR _ _ _ _ _ _; rw [HT2'.out]; exact Q5.out
        go_wp2_with fail
        go_roundw
        case rel => exact ⟨k + 1, f5, hlt, by go_num, HK2, Q6, T5⟩
        case measure => simp [intOf]; omega
      · obtain rfl : we = 14 := hE.resolve_left h0
        have HR : Hid (res = (T2.1, 14)) := by
          show _ = _
          rw [← HT2'.out]
          exact HF.out (k + 1) (by rw [HT2'.out, HSX2.out]; rfl)
        go_wp2_with fail
        go_ret
        rw [HR.out]
        exact ⟨rfl, f5, Q5.out, T5.out⟩
    · have g3 : decide ((k : Int) < (n : Int)) = false := by simpa using hlt
      obtain rfl : k = n := by omega
      have hway := HW.out k
      have HFL := Lib.hid (HQ.out.flush hway.1 0)
      have HR := Lib.hid (HE.out HK.out)
      clear hway
      go_wp2_with fail
      go_at_call 103
      refine HFL.out.mono ?_
      rintro e x5 ⟨rfl, f5, g1, g2⟩
      have Q5 := Lib.hid g1
      have T5 := Lib.hid (HTU.out.trans g2)
      clear g1 g2 HFL
      go_wp2_with fail
      go_ret
      rw [HR.out]
      exact ⟨rfl, f5, Q5.out, T5.out⟩
end Go.Proofs.YtbdfllamhcodjaaGreat

/- A region that draws its order, in an iterator of one's own: what only reads is taken ahead, then the rest as it stands, inside the wide fence. No program is named. -/
namespace Go.Proofs.YtbdfllamhcodjaaGreat
open Go.RowKit
set_option linter.unusedVariables false

section
variable {P : Program} {ops : Array Oper} {Q : Exit → Act → World → Prop} {md : Region.Mode} {S : World → Prop} {m : Nat}

/-- None of these. -/
def NoExit : Exit → Act → World → Prop := fun _ _ _ => False
theorem op_wideN {o : Oper} {a : Act} {w : World} {K : Act → World → Prop} (hd : ∀ c, o.op ≠ .defer c) (h : o.wp P a w K NoExit) : o.wpIn Fence.wide m P a w K Q := by
  unfold Oper.wpIn
  refine ⟨fun _ _ => trivial, ?_⟩
  rw [Oper.semAt_eq _ _ _ hd]
  unfold Oper.wp at h
  generalize (execOp a.eval o).run P w = r at *
  cases r with
  | ok x w' =>
    cases x <;> simp only [Oper.upon, Oper.uponIn] at h ⊢ <;>
      first
        | exact h
        | exact ⟨fun e => by simp [Fence.wide] at e, callsIn_wide.2 (h.mono fun e w'' he => by cases e <;> first | exact he | exact he.elim | (obtain ⟨_, _, h'⟩ := he; exact h'.elim))⟩
        | exact ⟨fun e => by simp [Fence.wide] at e, fun c cs _ => let ⟨v, w', r, s⟩ := h c cs; ⟨v, w', r, stepsIn_wide.2 s⟩⟩
        | exact h.elim
  | halt x w' => cases x <;> simp only [Oper.upon, Oper.uponIn] at h ⊢ <;> first | exact h | exact h.elim
theorem opAt_wideN {i : Nat} {a : Act} {w : World} {K : Act → World → Prop} (hd : noDefer ops = true) (h : wpOp P ops NoExit i K a w) : wpOpIn Fence.wide m P ops Q i K a w := by
  unfold wpOp at h
  unfold wpOpIn
  cases ho : ops[i]? with
  | none => simpa [ho] using h
  | some o =>
    simp only [ho] at h ⊢
    by_cases hw : Region.wanted o (yielded ops a.tmps) = true
    · simp only [hw, if_true] at h ⊢
      rcases h with h | h
      · exact op_wideN (noDefer_spec hd ho) h
      · obtain ⟨_, _, _, h'⟩ := h; exact h'.elim
    · simp only [hw] at h ⊢
      exact ⟨fun _ _ => trivial, h⟩
theorem anyIn_of_M {n g : Nat} {L : Array Bool → Act → World → Prop} (hd : noDefer ops = true) (hL : ∀ listed a w, L listed a w → wpAnyIn Fence.wide m P md ops Q g listed a w) :
    ∀ (f : Nat) (listed : Array Bool) (a : Act) (w : World), wpAnyM P md ops NoExit S n L f listed a w → wpAnyIn Fence.wide m P md ops Q (f + g) listed a w
  | 0, listed, a, w, h => by rw [Nat.zero_add]; exact hL _ _ _ h
  | f + 1, listed, a, w, h => by
    rw [show f + 1 + g = (f + g) + 1 by omega]
    exact ⟨fun h0 => absurd h0 h.1, fun i hi => wpOpIn_mono (fun a' w' h' => anyIn_of_M hd hL f _ a' w' h'.2) (opAt_wideN hd (h.2 i hi).2)⟩
theorem anyIn_of_seq : ∀ (l : List Oper) (k : Nat) (listed : Array Bool) (a : Act) (w : World), (∀ j, l[j]? = ops[k + j]?) →
    Region.seqB md ops l.length k listed = true → wpListIn Fence.wide m P ops Q l a w → wpAnyIn Fence.wide m P md ops Q l.length listed a w
  | [], _, _, _, _, _, hB, h => ⟨by simpa [Region.seqB] using hB, h⟩
  | o :: l, k, listed, a, w, hl, hB, h => by
    have h0 : ops[k]? = some o := by simpa using (hl 0).symm
    simp only [List.length_cons, Region.seqB, Bool.and_eq_true, decide_eq_true_eq] at hB
    refine ⟨fun h1 => (by rw [hB.1] at h1; cases h1), fun i hi => ?_⟩
    rw [hB.1] at hi
    have hik : i = k := by simpa using hi
    subst hik
    have hw : wpOpIn Fence.wide m P ops Q i (wpListIn Fence.wide m P ops Q l) a w := by unfold wpOpIn; simp only [h0]; exact h
    exact wpOpIn_mono (fun a' w' h' => anyIn_of_seq l (i + 1) _ a' w' (fun j => by have := hl (j + 1); simpa [Nat.add_assoc, Nat.add_comm 1 j] using this) hB.2 h') hw
/-- What only reads, one by one. -/
def wpTakes (P : Program) (l : List Oper) (S : World → Prop) (K : Act → Prop) : List Nat → Act → Prop
  | [], a => K a
  | i :: is, a => wpQuiet P l.toArray S (fun a' => wpTakes P l S K is a') [nth l i] a
theorem wpTakes_nil {l : List Oper} {K : Act → Prop} {a : Act} : wpTakes P l S K [] a = K a := rfl
theorem wpTakes_cons {l : List Oper} {K : Act → Prop} {i : Nat} {is : List Nat} {a : Act} : wpTakes P l S K (i :: is) a = wpQuiet P l.toArray S (fun a' => wpTakes P l S K is a') [nth l i] a := rfl
theorem wpAnyM_takes {l : List Oper} {n : Nat} (hsel : Region.noSelect l.toArray = true) (hs : Region.sinkB md l.toArray n = true) (hc : Region.chainB md l.toArray n = true) (hn : n < l.length) (K : Act → World → Prop) :
    ∀ (is : List Nat) (f : Nat) (listed : Array Bool) (a : Act) (w : World), HeadInv md l.toArray n listed → planB md l n (Plan.takes is .leaf) f listed = true → S w → wpTakes P l S (fun a' => K a' w) is a →
      wpAnyM P md l.toArray NoExit S n (fun listed' a' w' => Region.seqB md l.toArray (l.length - n) n listed' = true ∧ K a' w') f listed a w := by
  have hn' : n < l.toArray.size := by simpa using hn
  intro is
  induction is with
  | nil =>
    intro f listed a w inv hB hS h
    have hB' : planB md l n .leaf f listed = true := hB
    simp only [planB, Bool.and_eq_true, decide_eq_true_eq] at hB'
    obtain ⟨rfl, hB'⟩ := hB'
    exact ⟨hB', h⟩
  | cons i is ih =>
    intro f listed a w inv hB hS h
    have hB' : planB md l n (.take i (Plan.takes is .leaf)) f listed = true := hB
    simp only [planB, Bool.and_eq_true, decide_eq_true_eq] at hB'
    obtain ⟨⟨⟨⟨⟨hf, hin⟩, hrd⟩, hr⟩, hfr⟩, hB'⟩ := hB'
    obtain ⟨f, rfl⟩ : ∃ g, f = g + 1 := ⟨f - 1, by omega⟩
    have ho : l.toArray[i]? = some (nth l i) := by simpa using nth_get l i (by omega)
    have hr' : i ∈ Region.ready md l.toArray listed := by simpa using hr
    simp only [wpTakes, wpQuiet] at h
    obtain ⟨v, hy, hK⟩ := yieldsIf_of_quiet (i := i) hrd ⟨w, hS⟩ h
    exact wpAnyM_first ho (Region.noSelect_spec hsel) (fun c a w h => h) hs hc hn' hin (fun listed a w hL => seqB_ready hL.1) f listed a w inv (Region.free_spec ho hfr) hr' hy hS
      (ih f _ _ w (inv.set hr' hin) (by simpa using hB') hS hK)
/-- **A REGION THAT DRAWS, in an iterator: some reads ahead, the rest in order.** -/
theorem region_takes_in {id : Nat} {a : Act} {w : World} {l : List Oper} (S : World → Prop) (n : Nat) (is : List Nat) (hm : P.follows .mixedOrders = true) (hd : noDefer l.toArray = true) (hB : planOk l n (Plan.takes is .leaf) = true) (hS : S w.drew)
    (h : wpTakes P l S (fun a' => wpListIn Fence.wide m P l.toArray Q (l.drop n) a' w.drew) is a) : (Code.region id l.toArray true).wpIn Fence.wide m P Q a w := by
  simp only [planOk, Bool.and_eq_true, decide_eq_true_eq] at hB
  obtain ⟨⟨⟨⟨hsel, hn⟩, hs⟩, hc⟩, hp⟩ := hB
  have inv0 : HeadInv .any l.toArray n (Array.replicate l.toArray.size false) :=
    ⟨by simp, fun j oj _ hl => (by rw [getD_replicate_false] at hl; cases hl), fun t _ ht => getD_in (by simpa using ht) (getD_replicate_false _ _)⟩
  have H := wpAnyM_takes (md := .any) hsel hs hc hn (fun a' w' => wpListIn Fence.wide m P l.toArray Q (l.drop n) a' w') is n _ a w.drew inv0 (by simpa using hp) hS h
  refine wpIn_region_any hm ?_
  have := anyIn_of_M (g := l.length - n) hd (fun listed a' w' hL => by
    have := anyIn_of_seq (m := m) (md := .any) (Q := Q) (l.drop n) n listed a' w' (fun j => by simp [List.getElem?_drop]) (by rw [List.length_drop]; exact hL.1) hL.2
    rwa [List.length_drop] at this) _ _ _ _ H
  rw [show n + (l.length - n) = l.toArray.size by simp; omega] at this
  exact this
end
end Go.Proofs.YtbdfllamhcodjaaGreat

/- The library's All at pages, the developers' differing: each page that is asked for comes, with its number, in order. -/
namespace Go.Proofs.YtbdfllamhcodjaaGreat
open Go.RowKit Go.Shelf
set_option linter.unusedVariables false
attribute [-simp] Tryz.isAgg60 Tryz.zeroValue60 Tryz.isAgg112 Tryz.zeroValue112 Tryz.isAgg189 Tryz.zeroValue189 Tryz.isAgg133 Tryz.zeroValue133 Tryz.isAgg114 Tryz.zeroValue114
attribute [-go_sem] loadVar storeVar run_equalIn_agg
attribute [local go_sem] zero_blk build_blk zero_bod zero_pg build_pg build_pg0 zero_imgD zero_wr loadVar_openV storeVar_openV Oper.semAt_some

/-- A page, its number ahead. -/
def encPg (now : List (List Int)) {m : Nat} (x : Fin m) : Array Value := #[.int .i64 (x.1 : Int), .agg (u8s (pgAt now x.1)).toArray]
/-- Pages in memory: a row in a block. -/
structure PgsR (W : World) (v : Value) (g : Nat) (now : List (List Int)) : Prop where
  sl : ∃ a c, v = .slice a now.length c ∧ (0 < now.length → a = some ⟨g, 0, none⟩)
  lt : g < W.heap.size
  at_ : W.rangeAt g 0 (now.map u8s).flatten
  len : ∀ x ∈ now, x.length = 48
  few : now.length ≤ 1000
/-- .. whose slice is boxed. -/
structure PgsB (W : World) (Bs g : Nat) (now : List (List Int)) : Prop where
  box : ∃ v, Boxed W Bs 50 v ∧ PgsR W v g now
  lt : Bs < W.heap.size
theorem PgsR.keep {W W' : World} {v : Value} {g : Nat} {now : List (List Int)} (h : PgsR W v g now) (hs : W.heap.size ≤ W'.heap.size) (hg : W'.heap[g]? = W.heap[g]?) : PgsR W' v g now :=
  ⟨h.sl, Nat.lt_of_lt_of_le h.lt hs, rangeAt_same h.at_ hg, h.len, h.few⟩
theorem PgsR.below {W W' : World} {v : Value} {g : Nat} {now : List (List Int)} (h : PgsR W v g now) (hb : Below W.heap.size W W') : PgsR W' v g now := h.keep hb.size (hb.block g h.lt)
theorem PgsB.below {W W' : World} {Bs g : Nat} {now : List (List Int)} (h : PgsB W Bs g now) (hb : Below W.heap.size W W') : PgsB W' Bs g now := by
  obtain ⟨⟨v, h1, h2⟩, h3⟩ := h
  exact ⟨⟨v, (hb.block Bs h3).trans h1, h2.below hb⟩, Nat.lt_of_lt_of_le h3 hb.size⟩
theorem PgsR.page {W : World} {v : Value} {g : Nat} {now : List (List Int)} (h : PgsR W v g now) {k : Nat} (hk : k < now.length) : W.rangeAt g (k * 48) (u8s (pgAt now k)) ∧ (pgAt now k).length = 48 := by
  have hx : now[k]? = some (pgAt now k) := by unfold pgAt; rw [List.getElem?_eq_getElem hk]; rfl
  refine ⟨?_, h.len _ (List.mem_of_getElem? hx)⟩
  have := row_at (s := 48) (L := now.map u8s) (fun x hx => by obtain ⟨y, hy, rfl⟩ := List.mem_map.1 hx; rw [u8s_length]; exact h.len y hy) h.at_ (k := k) (x := u8s (pgAt now k)) (by rw [List.getElem?_map, hx]; rfl)
  rwa [Nat.zero_add] at this
set_option maxRecDepth 100000 in
theorem PgsR.load {W : World} {v : Value} {g : Nat} {now : List (List Int)} (h : PgsR W v g now) {k : Nat} (hk : k < now.length) : (loadVar 112 ⟨g, k * 48, none⟩).run Tryz.prog W = .ok (.agg (u8s (pgAt now k)).toArray) W :=
  load_bod (h.page hk).1 (by rw [u8s_length]; exact (h.page hk).2)
/-- Those that have come, when k have been looked at. -/
def selTo (m : Nat) (p : Nat → Bool) (k : Nat) : List (Fin m) := (upto m k).filter fun i => p i.1
theorem selTo_all (m : Nat) (p : Nat → Bool) : selTo m p m = selP m p := by unfold selTo selP; rw [upto_all]
theorem selTo_yes {m : Nat} {p : Nat → Bool} {k : Nat} (hk : k < m) (h : p k = true) : selTo m p (k + 1) = selTo m p k ++ [⟨k, hk⟩] := by
  unfold selTo
  rw [upto_succ m k hk, List.filter_append]
  congr 1
  simp [h]
theorem selTo_no {m : Nat} {p : Nat → Bool} {k : Nat} (hk : k < m) (h : p k = false) : selTo m p (k + 1) = selTo m p k := by
  unfold selTo
  rw [upto_succ m k hk, List.filter_append]
  simp [h]
theorem selTo_le {m : Nat} {p : Nat → Bool} {k : Nat} (hk : k ≤ m) : (selTo m p k).length ≤ k := by
  have := List.length_filter_le (fun i : Fin m => p i.1) (upto m k)
  rw [upto_length m k hk] at this
  exact this

section
set_option maxRecDepth 100000
set_option maxHeartbeats 4000000
set_option maxRecDepth 100000 in
/-- **All**: the slice is boxed. -/
theorem all_run (a : Option Addr) (len cap : Nat) (w : World) :
    Calls Tryz.prog 52 #[.slice a len cap] w fun e w' => e = .returned (.func (.func 101) #[] #[.pointer (some ⟨w.heap.size, 0, none⟩)]) ∧ w' = w.alloc (.cells #[.slice a len cap] 50) := by
  go_enter Tryz.func52, Tryz.ntmps52
  go_wp2
  go_ret
  exact ⟨rfl, rfl⟩
set_option maxRecDepth 100000 in
/-- **differing**: both are boxed. -/
theorem differing_run (a : Option Addr) (len cap : Nat) (a' : Option Addr) (len' cap' : Nat) (w : World) :
    Calls Tryz.prog 63 #[.slice a len cap, .slice a' len' cap'] w fun e w' => e = .returned (.func (.func 107) #[] #[.pointer (some ⟨w.heap.size + 1, 0, none⟩), .pointer (some ⟨w.heap.size, 0, none⟩)]) ∧ w' = (w.alloc (.cells #[.slice a len cap] 50)).alloc (.cells #[.slice a' len' cap'] 50) := by
  go_enter Tryz.func63, Tryz.ntmps63
  go_wp2
  go_ret
  exact ⟨rfl, rfl⟩
set_option maxRecDepth 100000 in
theorem all1_in (n : Nat) (hn : 1 ≤ n) (l Bs g m : Nat) (now : List (List Int)) (hm : now.length = m) (J Jx : List (Fin m) → World → Prop)
    (hY : ∀ pre x W, J pre W → pre.length < m → YieldAt Fence.wide (n - 1) Tryz.prog l (encPg now x) W fun e W' =>
      (e = .returned (.bool true) ∧ J (pre ++ [x]) W' ∧ KpC (fun k => k = Bs ∨ k = g) W W') ∨ (e = .returned (.bool false) ∧ Jx (pre ++ [x]) W'))
    (hJb : ∀ pre W W', J pre W → Below W.heap.size W W' → J pre W')
    (W : World) (hL : PgsB W Bs g now) (h0 : J [] W) :
    CallsIn Fence.wide n Tryz.prog 101 #[.func (.yield l) #[] #[], .pointer (some ⟨Bs, 0, none⟩)] W fun e W' => (∃ v, e = .returned v) ∧
      ((∃ ys, ys = selP m (fun _ => true) ∧ J ys W') ∨ (∃ pre, True ∧ Jx pre W')) := by
  refine callsIn_of_wp Tryz.func101 rfl trivial ?_ rfl
  simp only [Tryz.ntmps101, List.size_toArray, List.length_cons, List.length_nil, Nat.reduceAdd, Nat.reduceSub, Array.replicate_succ, Array.replicate_zero, List.push_toArray, List.append_toArray, List.nil_append, List.cons_append]
  obtain ⟨⟨v, hbx, hR⟩, hlt⟩ := hL
  obtain ⟨a, c, rfl, ha⟩ := hR.sl
  have c0 := hbx.cell
  have HM := Lib.hid hm
  have HRR := Lib.hid hR
  have hmx : m ≤ 1000 := by rw [← hm]; exact hR.few
  have HA := Lib.hid ha
  have HLT := Lib.hid hlt
  rw [hm] at c0
  clear hbx hlt hm hR ha
  gi_wp2
  gi_loopw [7] (fun i wr => ∃ k : Nat, k ≤ m ∧ i = .int .i64 k ∧ J (selTo m (fun _ => true) k) wr ∧ Hid (KpC (fun k => k = Bs ∨ k = g) W wr)) (fun i _ => m - (intOf i).toNat)
  case atStart => exact ⟨0, Nat.zero_le _, rfl, h0, KpC.refl _ _⟩
  case round =>
    obtain ⟨k, hk, rfl, hJs, HK⟩ := hrel
    by_cases hlt : k < m
    · have hkl : k < now.length := by rw [HM.out]; exact hlt
      obtain rfl : a = some ⟨g, 0, none⟩ := HA.out (by omega)
      have hRr := HRR.out.keep HK.out.1 (HK.out.2 g (.inr rfl))
      have LD := hRr.load hkl
      have hpl := (hRr.page hkl).2
      obtain ⟨y, ST, hr, hb⟩ := new_bod wr hpl
      have LB := hr.body hpl
      obtain ⟨fn, tmps, assign, body, hy, hRd⟩ := hY _ ⟨k, hlt⟩ y (hJb _ _ _ hJs hb) (by have := selTo_le (m := m) (p := fun _ => true) hk; omega)
      unfold encPg at hy
      dsimp only at hy
      have HKY : Hid (KpC (fun k => k = Bs ∨ k = g) W y) := kpC_t HK.out ⟨hb.size, fun j hj => hb.block j (by
        have h1 := HRR.out.lt
        have h2 := HK.out.1
        rcases hj with rfl | rfl
        · exact Nat.lt_of_lt_of_le HLT.out h2
        · omega)⟩
      obtain ⟨pb, hpb⟩ : ∃ b, (u8s (pgAt now k)).toArray = b := ⟨_, rfl⟩
      rw [hpb] at LD ST LB hy
      clear hpb hr hb hRr hpl
      gi_wp2
      refine hRd.mono ?_
      rintro e W3 (⟨rfl, hJ3, hk3⟩ | ⟨rfl, hJx3⟩)
      · have HK3 : Hid (KpC (fun k => k = Bs ∨ k = g) W W3) := kpC_t HKY.out hk3
        clear hk3
        gi_wp2
        go_roundw
        case rel => exact ⟨k + 1, by omega, by simp, by rw [selTo_yes hlt rfl]; exact hJ3, HK3⟩
        case measure => simp [intOf]; omega
      · gi_wp2
        refine bodyPost_ret (results_none rfl _ _ _) rfl ?_
        exact ⟨⟨_, rfl⟩, .inr ⟨_, trivial, hJx3⟩⟩
    · obtain rfl : k = m := by omega
      gi_wp2
      go_end0
      exact ⟨⟨_, rfl⟩, .inl ⟨_, rfl, by rw [← selTo_all]; exact hJs⟩⟩
set_option maxRecDepth 100000 in
theorem all_stops (n : Nat) (hn : 1 ≤ n) (Bs g m : Nat) (now : List (List Int)) (hm : now.length = m) (w : World) (hL : PgsB w Bs g now) :
    SeqStopsK Fence.wide n Tryz.prog 101 #[.pointer (some ⟨Bs, 0, none⟩)] (encPg now (m := m)) (KpC fun k => k = Bs ∨ k = g) (fun ys => ys = selP m (fun _ => true)) (fun _ => True) m w := fun l J Jx W hW hJ _ hY h0 =>
  all1_in n hn l Bs g m now hm J Jx hY (fun pre W W' hj hb => hJ pre W W' none hj (grown_below hb none) (fun r e => by cases e)) W (hL.below hW) h0
/-- The pages that differ. -/
def SD (Bn gn Bw gw : Nat) (k : Nat) : Prop := k = Bn ∨ k = gn ∨ k = Bw ∨ k = gw
set_option maxRecDepth 100000 in
theorem differing1_in (n : Nat) (hn : 1 ≤ n) (l Bn gn Bw gw m : Nat) (was now : List (List Int)) (hm : now.length = m) (hw : was.length = m) (J Jx : List (Fin m) → World → Prop)
    (hY : ∀ pre x W, J pre W → pre.length < m → YieldAt Fence.wide (n - 1) Tryz.prog l (encPg now x) W fun e W' =>
      (e = .returned (.bool true) ∧ J (pre ++ [x]) W' ∧ KpC (SD Bn gn Bw gw) W W') ∨ (e = .returned (.bool false) ∧ Jx (pre ++ [x]) W'))
    (hJb : ∀ pre W W', J pre W → Below W.heap.size W W' → J pre W')
    (W : World) (hL : PgsB W Bn gn now) (hL2 : PgsB W Bw gw was) (h0 : J [] W) :
    CallsIn Fence.wide n Tryz.prog 107 #[.func (.yield l) #[] #[], .pointer (some ⟨Bn, 0, none⟩), .pointer (some ⟨Bw, 0, none⟩)] W fun e W' => (∃ v, e = .returned v) ∧
      ((∃ ys, ys = selP m (difP was now) ∧ J ys W') ∨ (∃ pre, True ∧ Jx pre W')) := by
  refine callsIn_of_wp Tryz.func107 rfl trivial ?_ rfl
  simp only [Tryz.ntmps107, List.size_toArray, List.length_cons, List.length_nil, Nat.reduceAdd, Nat.reduceSub, Array.replicate_succ, Array.replicate_zero, List.push_toArray, List.append_toArray, List.nil_append, List.cons_append]
  obtain ⟨⟨v, hbx, hR⟩, hlt⟩ := hL
  obtain ⟨⟨v2, hbx2, hR2⟩, hlt2⟩ := hL2
  obtain ⟨a, c, rfl, ha⟩ := hR.sl
  obtain ⟨a2, c2, rfl, ha2⟩ := hR2.sl
  have c0 := hbx.cell
  have C2 : Hid (W.cell? ⟨Bw, 0, none⟩ = some (.slice a2 m c2)) := by show _ = _; rw [← hw]; exact hbx2.cell
  have HM := Lib.hid hm
  have HW := Lib.hid hw
  have HRR := Lib.hid hR
  have HRW := Lib.hid hR2
  have hmx : m ≤ 1000 := by rw [← hm]; exact hR.few
  have HA := Lib.hid ha
  have HA2 := Lib.hid ha2
  have HLT : Hid (∀ j, SD Bn gn Bw gw j → j < W.heap.size) := fun j hj => by
    rcases hj with rfl | rfl | rfl | rfl
    · exact hlt
    · exact hR.lt
    · exact hlt2
    · exact hR2.lt
  have hmo : Tryz.prog.follows .mixedOrders = true := by kernel_rfl
  rw [hm] at c0
  clear hbx hlt hm hR ha hbx2 hR2 hlt2 hw ha2
  gi_wp2
  gi_loopw [8] (fun i wr => ∃ k : Nat, k ≤ m ∧ i = .int .i64 k ∧ J (selTo m (difP was now) k) wr ∧ Hid (KpC (SD Bn gn Bw gw) W wr)) (fun i _ => m - (intOf i).toNat)
  case atStart => exact ⟨0, Nat.zero_le _, rfl, h0, KpC.refl _ _⟩
  case round =>
    obtain ⟨k, hk, rfl, hJs, HK⟩ := hrel
    by_cases hlt : k < m
    · have hkl : k < now.length := by rw [HM.out]; exact hlt
      have hkw : k < was.length := by rw [HW.out]; exact hlt
      obtain rfl : a = some ⟨gn, 0, none⟩ := HA.out (by omega)
      obtain rfl : a2 = some ⟨gw, 0, none⟩ := HA2.out (by omega)
      have hRr := HRR.out.keep HK.out.1 (HK.out.2 gn (.inr (.inl rfl)))
      have LD := hRr.load hkl
      have hpl := (hRr.page hkl).2
      obtain ⟨y, ST, hr, hb⟩ := new_bod wr hpl
      have HKY : Hid (KpC (SD Bn gn Bw gw) W y) := kpC_t HK.out ⟨hb.size, fun j hj => hb.block j (Nat.lt_of_lt_of_le (HLT.out j hj) HK.out.1)⟩
      have hRw := HRW.out.keep HKY.out.1 (HKY.out.2 gw (.inr (.inr (.inr rfl))))
      have hpw := (hRw.page hkw).2
      have LBz : ∀ z : Ext y, (loadVar 112 ⟨wr.heap.size, 0, none⟩).run Tryz.prog z.1 = .ok (.agg (u8s (pgAt now k)).toArray) z.1 := fun z => (hr.below z.2).body hpl
      have LWz : ∀ z : Ext y, (loadVar 112 ⟨gw, k * 48, none⟩).run Tryz.prog z.1 = .ok (.agg (u8s (pgAt was k)).toArray) z.1 := fun z => (hRw.below z.2).load hkw
      have c2z : ∀ z : Ext y, z.1.cell? ⟨Bw, 0, none⟩ = some (.slice (some ⟨gw, 0, none⟩) m c2) := fun z =>
        ((z.2.cell (p := ⟨Bw, 0, none⟩) (Nat.lt_of_lt_of_le (HLT.out Bw (.inr (.inr (.inl rfl)))) HKY.out.1)).trans (HKY.out.cell (p := ⟨Bw, 0, none⟩) (.inr (.inr (.inl rfl))))).trans C2.out
      have EQ : ∀ z : World, (Op.equalIn 10000 112 (.agg (u8s (pgAt now k)).toArray) (.agg (u8s (pgAt was k)).toArray)).run Tryz.prog z = .ok (alike (u8s (pgAt now k)) (u8s (pgAt was k))) z := fun z => eq_bod hpl hpw z
      have hJy := hJb _ _ _ hJs hb
      have hdf : difP was now k = !alike (u8s (pgAt now k)) (u8s (pgAt was k)) := by
        have e1 : now[k]? = some (pgAt now k) := by unfold pgAt; rw [List.getElem?_eq_getElem hkl]; rfl
        have e2 : was[k]? = some (pgAt was k) := by unfold pgAt; rw [List.getElem?_eq_getElem hkw]; rfl
        unfold difP
        rw [e1, e2]
        by_cases h : pgAt now k = pgAt was k
        · rw [h, alike_self]; simp
        · rw [alike_not (fun e => h (u8s_inj e))]; simpa using h
      obtain ⟨B, hB⟩ : ∃ B, wr.heap.size = B := ⟨_, rfl⟩
      rw [hB] at ST LBz
      obtain ⟨b, hbb⟩ : ∃ b, alike (u8s (pgAt now k)) (u8s (pgAt was k)) = b := ⟨_, rfl⟩
      rw [hbb] at EQ hdf
      have HPB : Hid ((u8s (pgAt now k)).toArray = (u8s (pgAt now k)).toArray) := rfl
      obtain ⟨pb, hpb⟩ : ∃ b, (u8s (pgAt now k)).toArray = b := ⟨_, rfl⟩
      obtain ⟨qb, hqb⟩ : ∃ b, (u8s (pgAt was k)).toArray = b := ⟨_, rfl⟩
      rw [hpb] at LD ST LBz EQ
      rw [hqb] at LWz EQ
      have HPB := Lib.hid hpb
      clear hr hb hRr hpl hRw hpw hbb hpb hqb hJs
      cases b with
      | true =>
        have HDF : Hid (difP was now k = false) := hdf
        have hJd := hJb _ _ y.drew hJy ((Below.refl _ y).drew)
        have HKD : Hid (KpC (SD Bn gn Bw gw) W y.drew) := kpC_t HKY.out ⟨Nat.le_refl _, fun _ _ => rfl⟩
        clear hdf
        gi_wp2_with fail
        refine region_takes_in (fun x => ∃ z : Ext y, x = z.1) 10 [0, 1, 2, 3, 4, 5, 6, 7, 8, 9] hmo (by kernel_rfl) (by kernel_rfl) ⟨⟨y.drew, (Below.refl _ y).drew⟩, rfl⟩ ?_
        repeat (rw [wpTakes_cons]; simp only [nth_zero, nth_succ]; go_big_quiet_step (fail); refine wpQuiet_nil ?_)
        rw [wpTakes_nil]
        simp only [List.drop_succ_cons, List.drop_zero]
        clear LBz LWz c2z EQ LD ST
        gi_wp2_with fail
        refine ⟨fun _ h => (by cases h), ?_⟩
        gi_wp2_with fail
        go_roundw
        case rel => exact ⟨k + 1, by omega, by simp, by rw [selTo_no hlt HDF.out]; exact hJd, HKD⟩
        case measure => simp [intOf]; omega
      | false =>
        have HDF : Hid (difP was now k = true) := hdf
        have hJd := hJb _ _ y.drew hJy ((Below.refl _ y).drew)
        have HKD : Hid (KpC (SD Bn gn Bw gw) W y.drew) := kpC_t HKY.out ⟨Nat.le_refl _, fun _ _ => rfl⟩
        obtain ⟨fn, tmps, assign, body, hy, hRd⟩ := hY _ ⟨k, hlt⟩ y.drew hJd (by have := selTo_le (m := m) (p := difP was now) hk; omega)
        unfold encPg at hy
        dsimp only at hy
        rw [HPB.out] at hy
        clear hdf
        gi_wp2_with fail
        refine region_takes_in (fun x => ∃ z : Ext y, x = z.1) 10 [0, 1, 2, 3, 4, 5, 6, 7, 8, 9] hmo (by kernel_rfl) (by kernel_rfl) ⟨⟨y.drew, (Below.refl _ y).drew⟩, rfl⟩ ?_
        repeat (rw [wpTakes_cons]; simp only [nth_zero, nth_succ]; go_big_quiet_step (fail); refine wpQuiet_nil ?_)
        rw [wpTakes_nil]
        simp only [List.drop_succ_cons, List.drop_zero]
        clear LBz LWz c2z EQ LD ST
        gi_wp2_with fail
        refine hRd.mono ?_
        rintro e W3 (⟨rfl, hJ3, hk3⟩ | ⟨rfl, hJx3⟩)
        · have HK3 : Hid (KpC (SD Bn gn Bw gw) W W3) := kpC_t HKD.out hk3
          clear hk3
          gi_wp2_with fail
          go_roundw
          case rel => exact ⟨k + 1, by omega, by simp, by rw [selTo_yes hlt HDF.out]; exact hJ3, HK3⟩
          case measure => simp [intOf]; omega
        · gi_wp2_with fail
          refine bodyPost_ret (results_none rfl _ _ _) rfl ?_
          exact ⟨⟨_, rfl⟩, .inr ⟨_, trivial, hJx3⟩⟩
    · obtain rfl : k = m := by omega
      gi_wp2
      go_end0
      exact ⟨⟨_, rfl⟩, .inl ⟨_, rfl, by rw [← selTo_all]; exact hJs⟩⟩
set_option maxRecDepth 100000 in
theorem differing_stops (n : Nat) (hn : 1 ≤ n) (Bn gn Bw gw m : Nat) (was now : List (List Int)) (hm : now.length = m) (hw : was.length = m) (w : World) (hL : PgsB w Bn gn now) (hL2 : PgsB w Bw gw was) :
    SeqStopsK Fence.wide n Tryz.prog 107 #[.pointer (some ⟨Bn, 0, none⟩), .pointer (some ⟨Bw, 0, none⟩)] (encPg now (m := m)) (KpC (SD Bn gn Bw gw)) (fun ys => ys = selP m (difP was now)) (fun _ => True) m w := fun l J Jx W hW hJ _ hY h0 =>
  differing1_in n hn l Bn gn Bw gw m was now hm hw J Jx hY (fun pre W W' hj hb => hJ pre W W' none hj (grown_below hb none) (fun r e => by cases e)) W (hL.below hW) (hL2.below hW) h0
end
end Go.Proofs.YtbdfllamhcodjaaGreat

/- The developers' superblocks in memory. -/
namespace Go.Proofs.YtbdfllamhcodjaaGreat
open Go.RowKit Go.Shelf
set_option linter.unusedVariables false

/-- A superblock's cells. -/
def supC (gen : Int) (g : Geo) (a q : Int) : List Value := [.int .u32 gen, .int .i64 g.b, .int .i64 g.s, .int .i64 g.y, .int .i64 g.a, .int .i64 g.r, .int .i64 a, .int .u32 q]
def zsup : List Value := supC 0 ⟨0, 0, 0, 0, 0⟩ 0 0
theorem supC_one (gen : Int) (g : Geo) (a q : Int) : ∀ v ∈ supC gen g a q, v.oneCell' = true := by
  intro v hv
  simp only [supC, List.mem_cons, List.not_mem_nil, or_false] at hv
  rcases hv with rfl | rfl | rfl | rfl | rfl | rfl | rfl | rfl <;> rfl
/-- Numbers that have room in a superblock. -/
structure SupIn (gen : Int) (g : Geo) (a q : Int) : Prop where
  gen : IsSeq gen
  b : 0 ≤ g.b ∧ g.b < 65536
  s : 0 ≤ g.s ∧ g.s < 256
  y : 0 ≤ g.y ∧ g.y < 256
  a' : 0 ≤ g.a ∧ g.a < 65536
  r : 0 ≤ g.r ∧ g.r < 65536
  at0 : 0 ≤ a ∧ a < 65536
  seq : IsSeq q
section
set_option maxRecDepth 100000
set_option maxRecDepth 100000 in
theorem size_sup : (Tryz.prog.info? 105).map (·.size) = some 8 := by kernel_rfl
set_option maxRecDepth 100000 in
theorem zero_sup (w : World) : (zeroValue 105).run Tryz.prog w = .ok (.agg zsup.toArray) w := by kernel_rfl
set_option maxRecDepth 100000 in
theorem load_sup {w : World} {b o : Nat} {c : List Value} (hc : w.rangeAt b o c) (h : c.length = 8) : (loadVar 105 ⟨b, o, none⟩).run Tryz.prog w = .ok (.agg c.toArray) w :=
  run_loadVar_mid w b o _ c _ hc Tryz.underlying105 rfl (by rw [h]; exact size_sup)
set_option maxRecDepth 100000 in
theorem store_sup {w : World} {b o : Nat} {c : List Value} (ht : w.there b o 8) (h : c.length = 8) (h1 : ∀ v ∈ c, v.oneCell' = true) : (storeVar 105 ⟨b, o, none⟩ (.agg c.toArray)).run Tryz.prog w = .ok () (w.setCells b o c) := by
  have := run_storeVar_mid (P := Tryz.prog) w b o 105 c.toArray (by simpa [h] using ht) (by simpa [h] using size_sup) (all_oneCell_toArray h1)
  simpa using this
set_option maxRecDepth 100000 in
theorem store_new_sup {w : World} {c : Array Value} {c' : List Value} (h : c.size = 8) (h' : c'.length = 8) (h1 : ∀ v ∈ c', v.oneCell' = true) : (storeVar 105 ⟨w.heap.size, 0, none⟩ (.agg c'.toArray)).run Tryz.prog (w.alloc (.cells c 105)) = .ok () (w.alloc (.cells c'.toArray 105)) :=
  run_storeVar_new w _ c c'.toArray (by simpa [h'] using size_sup) (by simpa [h'] using h) (all_oneCell_toArray h1)
set_option maxRecDepth 100000 in
theorem size_geoV : (Tryz.prog.info? 23).map (·.size) = some 5 := by kernel_rfl
set_option maxRecDepth 100000 in
theorem load_geoV {w : World} {b o : Nat} {g : Geo} (hc : w.rangeAt b o [.int .i64 g.b, .int .i64 g.s, .int .i64 g.y, .int .i64 g.a, .int .i64 g.r]) : (loadVar 23 ⟨b, o, none⟩).run Tryz.prog w = .ok (.agg g.v) w :=
  run_loadVar_mid w b o _ _ _ hc Tryz.underlying23 rfl (by exact size_geoV)
set_option maxRecDepth 100000 in
theorem build_spot (a q : Int) (w : World) : (Instr.build 103 #[(0, .int .i64 a), (1, .int .u32 q)]).run Tryz.prog w = .ok (.agg #[.int .i64 a, .int .u32 q]) w := by kernel_rfl
set_option maxRecDepth 100000 in
theorem build_sup3 (n : Int) (g : Geo) (a q : Int) (w : World) : (Instr.build 105 #[(0, .int .u32 n), (1, .agg g.v), (2, .agg #[.int .i64 a, .int .u32 q])]).run Tryz.prog w = .ok (.agg (supC n g a q).toArray) w := by kernel_rfl
set_option maxRecDepth 100000 in
theorem build_pg2 (m s : Int) (w : World) : (Instr.build 189 #[(0, .int .u8 m), (1, .int .u32 s)]).run Tryz.prog w = .ok (.agg (Value.int .u8 m :: .int .u32 s :: .int .i64 0 :: u8s (List.replicate 48 0)).toArray) w := by kernel_rfl
end
set_option maxRecDepth 100000 in
theorem RowC.sup {x : World} {B : Nat} {t : TypeId} {gen : Int} {g : Geo} {a q : Int} (h : RowC x B t (supC gen g a q)) : (loadVar 105 ⟨B, 0, none⟩).run Tryz.prog x = .ok (.agg (supC gen g a q).toArray) x := load_sup h.range rfl
set_option maxRecDepth 100000 in
theorem RowC.supG {x : World} {B : Nat} {t : TypeId} {gen : Int} {g : Geo} {a q : Int} (h : RowC x B t (supC gen g a q)) : (loadVar 23 ⟨B, 1, none⟩).run Tryz.prog x = .ok (.agg g.v) x :=
  load_geoV fun j v hj => h.cell (1 + j) v (by
    match j, hj with
    | 0, hj => exact hj
    | 1, hj => exact hj
    | 2, hj => exact hj
    | 3, hj => exact hj
    | 4, hj => exact hj
    | j + 5, hj => simp at hj)
/-- What stands ahead of a superblock's zeros. -/
def supHead (g : Geo) (a q : Int) : List Int := [82, 86, 84, 49] ++ (putL g.b 2 ++ (putL g.s 1 ++ (putL g.y 1 ++ (putL g.a 2 ++ (putL g.r 2 ++ (putL a 2 ++ putL q 4))))))
theorem supHead_length (g : Geo) (a q : Int) : (supHead g a q).length = 18 := by simp [supHead, putL_length]
/-- A superblock, of a place as it is written. -/
def supSctI (gen : Int) (g : Geo) (a q : Int) : Sct := ⟨83, gen, 0, supHead g a q ++ List.replicate 30 0⟩
theorem supSctI_nat (gen : Int) (g : Geo) (a : Nat) (q : Int) : supSctI gen g (a : Int) q = supSct gen g a q := by
  unfold supSctI supSct supBody supHead
  simp
theorem supSctI_len (gen : Int) (g : Geo) (a q : Int) : (supSctI gen g a q).body.length = 48 := by simp [supSctI, supHead_length]
set_option maxRecDepth 100000 in
/-- The body's copy; what is read then. -/
theorem sup_tail {x : World} {P : Nat} {v : Value} {gen : Int} {g : Geo} {a q : Int} (hP : RowC x P 189 (Value.int .u8 83 :: .int .u32 gen :: .int .i64 0 :: u8s (List.replicate 48 0))) (hv : Sl .u8 x v (supHead g a q)) :
    (Builtin.copy_ #[37, 37] 3 #[.slice (some ⟨P, 3, none⟩) 48 48, v]).run Tryz.prog x = .ok (goInt 18) (x.setCells P 3 (u8s (supHead g a q))) ∧
    (loadVar 189 ⟨P, 0, none⟩).run Tryz.prog (x.setCells P 3 (u8s (supHead g a q))) = .ok (.agg (supSctI gen g a q).cells.toArray) (x.setCells P 3 (u8s (supHead g a q))) := by
  have ht : x.there P 3 48 := row_there hP 3 48 (by simp [u8s])
  have hl := supHead_length g a q
  have h18 : x.there P 3 18 := fun j hj => ht j (by omega)
  have rc := run_copy_bytes (B := P) (o := 3) (dLen := 48) (dCap := 48) 3 hv (by omega) (by rw [hl]; exact h18)
  rw [hl] at rc
  refine ⟨rc, load_pg ?_ (Sct.cells_length (supSctI_len gen g a q))⟩
  have e : (supSctI gen g a q).cells = [.int .u8 83, .int .u32 gen, .int .i64 0] ++ (u8s (supHead g a q) ++ u8s (List.replicate 30 0)) := by simp [Sct.cells, supSctI, u8s]
  rw [e]
  have hr : x.rangeAt P 0 (Value.int .u8 83 :: .int .u32 gen :: .int .i64 0 :: u8s (List.replicate 48 0)) := hP.range
  refine rangeAt_app (World.rangeAt_setCells_apart (fun j u hj => ?_) _ 3 _ (.inr (.inl (by simp)))) (fun j u hj => ?_)
  · refine hr j u ?_
    match j, hj with
    | 0, hj => exact hj
    | 1, hj => exact hj
    | 2, hj => exact hj
    | j + 3, hj => simp at hj
  · by_cases hj2 : j < 18
    · rw [List.getElem?_append_left (by rw [u8s_length, hl]; exact hj2)] at hj
      exact World.rangeAt_setCells_same x P 3 _ (by rw [u8s_length, hl]; exact h18) j u hj
    · rw [List.getElem?_append_right (by rw [u8s_length, hl]; omega), u8s_length, hl] at hj
      have hz : x.rangeAt P 21 (u8s (List.replicate 30 0)) := fun i z hi => by
        have h30 : i < 30 := by have := (List.getElem?_eq_some_iff.1 hi).1; simpa [u8s] using this
        have := hr (21 + i) z (by
          rw [show 21 + i = 18 + i + 1 + 1 + 1 by omega, List.getElem?_cons_succ, List.getElem?_cons_succ, List.getElem?_cons_succ, ← hi]
          unfold u8s
          rw [List.getElem?_map, List.getElem?_map, List.getElem?_replicate, List.getElem?_replicate, if_pos (by omega), if_pos h30])
        rwa [Nat.zero_add] at this
      have := World.rangeAt_setCells_apart hz P 3 (u8s (supHead g a q)) (.inr (.inr (by rw [u8s_length, hl]; omega))) (j - 18) u hj
      rwa [show 21 + (j - 18) = [Value.int .u8 83, .int .u32 gen, .int .i64 0].length + j by simp; omega] at this
end Go.Proofs.YtbdfllamhcodjaaGreat

/- The developers' superblocks: sector. -/
namespace Go.Proofs.YtbdfllamhcodjaaGreat
open Go.RowKit Go.Shelf
set_option linter.unusedVariables false
attribute [-simp] Tryz.isAgg60 Tryz.zeroValue60 Tryz.isAgg112 Tryz.zeroValue112 Tryz.isAgg189 Tryz.zeroValue189 Tryz.isAgg133 Tryz.zeroValue133 Tryz.isAgg114 Tryz.zeroValue114 Tryz.isAgg105 Tryz.zeroValue105
attribute [-go_sem] loadVar storeVar run_equalIn_agg
attribute [local go_sem] zero_blk build_blk zero_bod zero_pg build_pg build_pg0 build_pg2 zero_imgD zero_wr zero_sup loadVar_openV storeVar_openV

/-- Bytes that lie in memory, each slice by itself. -/
def AllSl (w : World) (L : List (Value × List Int)) : Prop := ∀ p ∈ L, Sl .u8 w p.1 p.2
theorem AllSl.nil (w : World) : AllSl w [] := fun p h => by cases h
theorem AllSl.put {w w' : World} {L : List (Value × List Int)} (h : AllSl w L) (hb : Below w.heap.size w w') {v : Value} {bs : List Int} (hv : Sl .u8 w' v bs) : AllSl w' ((v, bs) :: L) := fun p hp => by
  rcases List.mem_cons.1 hp with rfl | hp
  · exact hv
  · exact (h p hp).below hb
theorem AllSl.below {w w' : World} {L : List (Value × List Int)} (h : AllSl w L) (hb : Below w.heap.size w w') : AllSl w' L := fun p hp => (h p hp).below hb
theorem wpPlan_two {P : Program} {l : List Oper} {Q : Exit → Act → World → Prop} {S : World → Prop} {n i j : Nat} {p q : Plan} {a : Act} {w : World} : wpPlan P l Q S n (.two i j p q) a w = (wpList P l.toArray (planPost S Q (wpPlan P l Q S n p)) [nth l i] a w ∧ wpList P l.toArray (planPost S Q (wpPlan P l Q S n q)) [nth l j] a w) := rfl
set_option maxRecDepth 100000 in
theorem put_sl {x : World} (n : Int) (k : Nat) (h1 : 1 ≤ k) (h2 : k ≤ 16) (h0 : 0 ≤ n) (h3 : n < 18446744073709551616) : Calls Tryz.prog 137 #[.int .u64 n, .int .i64 (k : Int)] x fun e w' => ∃ a c, e = .returned (.slice a k c) ∧ Sl .u8 w' (.slice a k c) (putL n k) ∧ Below x.heap.size x w' := by
  refine (put_some n k x h1 h2 h0 h3).mono ?_
  rintro e w' ⟨v, rfl, hrow, hb⟩
  have hs := Sl.of_owns (bs := putL n k) (by rw [putL_length]; exact hrow)
  obtain ⟨a, c, hv, -⟩ := id hs
  rw [putL_length] at hv
  subst hv
  exact ⟨a, c, rfl, hs, hb⟩
set_option maxRecDepth 100000 in
theorem conv_mark (w : World) (L : Nat) (C : Array Value) (n c : Nat) (h : w.heap[L]? = some (.cells C 5 (0, 0))) :
    ∃ w', (convert 37 37 (.slice (some ⟨L, 0, none⟩) n c)).run Tryz.prog w = .ok (.slice (some ⟨L, 0, none⟩) n c) w' ∧ Below L w w' ∧ w'.heap.size = w.heap.size ∧ ∀ p, w'.cell? p = w.cell? p := by
  have hsh : w.shape? L = some (5, C.size) := by unfold World.shape?; rw [h]
  have hlt : L < w.heap.size := (Array.getElem?_eq_some_iff.1 h).1
  have hoth : ∀ k, k ≠ L → (w.freeze ⟨L, C.size, none⟩ 1).heap[k]? = w.heap[k]? := fun k hk => by
    unfold World.freeze
    rw [if_neg (by decide)]
    show (w.heap.modify L _)[k]? = _
    rw [Array.getElem?_modify, if_neg (fun e => hk e.symm)]
  have hat : ∃ r, (w.freeze ⟨L, C.size, none⟩ 1).heap[L]? = some (.cells C 5 r) := by
    unfold World.freeze
    rw [if_neg (by decide)]
    show ∃ r, (w.heap.modify L _)[L]? = _
    rw [Array.getElem?_modify, if_pos rfl, h]
    exact ⟨_, rfl⟩
  have hsz : (w.freeze ⟨L, C.size, none⟩ 1).heap.size = w.heap.size := by
    unfold World.freeze
    rw [if_neg (by decide)]
    exact Array.size_modify
  refine ⟨w.freeze ⟨L, C.size, none⟩ 1, ?_, ⟨rfl, rfl, rfl, by rw [hsz]; exact Nat.le_refl _, fun k hk => hoth k (by omega)⟩, hsz, fun p => ?_⟩
  · simp [convert, run_underlying Tryz.underlying37, run_underlying Tryz.underlying5, markStringish, hsh]
  · by_cases hp : p.block = L
    · obtain ⟨r, hr⟩ := hat
      unfold World.cell?
      rw [hp, hr, h]
    · exact World.cell?_of_block (hoth _ hp)
theorem Sl.cells {w w' : World} {v : Value} {bs : List Int} (h : Sl .u8 w v bs) (hs : w'.heap.size = w.heap.size) (hc : ∀ p, w'.cell? p = w.cell? p) : Sl .u8 w' v bs := by
  obtain ⟨a, cap, e, h1, h2, h3, hn⟩ := h
  refine ⟨a, cap, e, h1, h2, ?_, hn⟩
  rcases h3 with h3 | ⟨b, off, e, h3, h4⟩
  · exact .inl h3
  · exact .inr ⟨b, off, e, by rw [hs]; exact h3, fun j hj => (hc _).trans (h4 j hj)⟩
theorem AllSl.cells {w w' : World} {L : List (Value × List Int)} (h : AllSl w L) (hs : w'.heap.size = w.heap.size) (hc : ∀ p, w'.cell? p = w.cell? p) : AllSl w' L := fun p hp => (h p hp).cells hs hc
theorem plan_have {ι : Type} {P : Program} {l : List Oper} {Q : Exit → Act → World → Prop} {S : World → Prop} {n : Nat} {p0 : Plan} {a0 : Act} {x0 : World} (p1 : Plan) (F : ι → Act) (C : ι → World → Prop) (h1 : ∀ i x, C i x → wpPlan P l Q S n p1 (F i) x)
    (h0 : (∀ i x, C i x → wpPlan P l Q S n p1 (F i) x) → wpPlan P l Q S n p0 a0 x0) : wpPlan P l Q S n p0 a0 x0 := h0 h1
set_option maxRecDepth 100000 in
theorem build_lit (w : World) : (Instr.buildSlice 37 4 #[(0, .int .u8 82), (1, .int .u8 86), (2, .int .u8 84), (3, .int .u8 49)]).run Tryz.prog w = .ok (.slice (some ⟨w.heap.size, 0, none⟩) 4 4) (w.alloc (.cells (u8s [82, 86, 84, 49]).toArray 5)) := by
  kernel_rfl
set_option maxRecDepth 100000 in
theorem build_sls8 (w : World) (a b c d e f g h : Option Addr) (la lb lc ld le lf lg lh ca cb cc cd ce cf cg ch : Nat) :
    (Instr.buildSlice 238 8 #[(0, .slice a la ca), (1, .slice b lb cb), (2, .slice c lc cc), (3, .slice d ld cd), (4, .slice e le ce), (5, .slice f lf cf), (6, .slice g lg cg), (7, .slice h lh ch)]).run Tryz.prog w = .ok (.slice (some ⟨w.heap.size, 0, none⟩) 8 8) (w.alloc (.cells #[.slice a la ca, .slice b lb cb, .slice c lc cc, .slice d ld cd, .slice e le ce, .slice f lf cf, .slice g lg cg, .slice h lh ch] 37)) := by
  kernel_rfl
theorem SupIn.of {gen : Int} {g : Geo} {a q : Int} (h : SupIn gen g a q) : 0 ≤ g.b ∧ g.b < 65536 ∧ 0 ≤ g.s ∧ g.s < 256 ∧ 0 ≤ g.y ∧ g.y < 256 ∧ 0 ≤ g.a ∧ g.a < 65536 ∧ 0 ≤ g.r ∧ g.r < 65536 ∧ 0 ≤ a ∧ a < 65536 ∧ 0 ≤ q ∧ q < 4294967296 :=
  ⟨h.b.1, h.b.2, h.s.1, h.s.2, h.y.1, h.y.2, h.a'.1, h.a'.2, h.r.1, h.r.2, h.at0.1, h.at0.2, h.seq.1, h.seq.2⟩
set_option maxRecDepth 100000 in
theorem new_pg2 (x : World) (gen : Int) : ∃ y, (storeVar 189 ⟨x.heap.size, 0, none⟩ (.agg (Value.int .u8 83 :: .int .u32 gen :: .int .i64 0 :: u8s (List.replicate 48 0)).toArray)).run Tryz.prog (x.alloc (.cells zcs.toArray 189)) = .ok () y ∧ RowC y x.heap.size 189 (Value.int .u8 83 :: .int .u32 gen :: .int .i64 0 :: u8s (List.replicate 48 0)) ∧ Below x.heap.size x y :=
  ⟨_, store_new_pg zcs_len (by simp [u8s]) (Sct.cells_one ⟨83, gen, 0, List.replicate 48 0⟩), RowC.new x _ _, below_new x _⟩
set_option maxRecDepth 100000 in
set_option maxHeartbeats 20000000 in
/-- **sector**. -/
theorem mvSector {gen : Int} {g : Geo} {a q : Int} (hI : SupIn gen g a q) (w : World) :
    Calls Tryz.prog 102 #[.agg (supC gen g a q).toArray] w fun e w' => e = .returned (.agg (supSctI gen g a q).cells.toArray) ∧ Below w.heap.size w w' := by
  obtain ⟨W1, hW1⟩ : ∃ W1, w.alloc (.cells (supC gen g a q).toArray 105) = W1 := ⟨_, rfl⟩
  have r1 : RowC W1 w.heap.size 105 (supC gen g a q) := by rw [← hW1]; exact RowC.new w _ _
  have b1 : Below w.heap.size w W1 := by rw [← hW1]; exact below_new w _
  obtain ⟨W2, hW2⟩ : ∃ W2, W1.alloc (.cells zcs.toArray 189) = W2 := ⟨_, rfl⟩
  have b2 : Below W1.heap.size W1 W2 := by rw [← hW2]; exact below_new W1 _
  have r2 : RowC W2 W1.heap.size 189 zcs := by rw [← hW2]; exact RowC.new W1 _ _
  obtain ⟨W, ST, r3, b3⟩ := new_pg2 W2 gen
  have rS := (r1.below b2)
  have c0 : W2.cell? ⟨w.heap.size, 0, none⟩ = some (.int .u32 gen) := rS.cell 0 _ rfl
  have hb12 := b1.trans (b2.mono b1.size)
  have HB0 : Hid (Below w.heap.size w W) := hb12.trans (b3.mono hb12.size)
  have rS3 := rS.below b3
  obtain ⟨B0, hB0⟩ : ∃ b, w.heap.size = b := ⟨_, rfl⟩
  obtain ⟨B1, hB1⟩ : ∃ b, W1.heap.size = b := ⟨_, rfl⟩
  obtain ⟨B2, hB2⟩ : ∃ b, W2.heap.size = b := ⟨_, rfl⟩
  have r23 := r2.below b3
  rw [hB1] at r23
  rw [hB2] at ST r3
  have ST : (storeVar 189 ⟨B2, 0, none⟩ (.agg ((zcs.set 0 (.int .u8 83)).set 1 (.int .u32 gen)).toArray)).run Tryz.prog (W2.alloc (.cells zcs.toArray 189)) = .ok () W := ST
  rw [hB0] at c0 rS3
  have R1 := Lib.hid r23
  have R3 := Lib.hid r3
  have h01 : w.heap.size ≤ B1 := by rw [← hB1]; exact b1.size
  have h12 : w.heap.size ≤ B2 := by rw [← hB2]; exact hb12.size
  have H1 := Lib.hid h01
  have HNE : Hid (B1 ≠ B2) := by show _ ≠ _; have := r2.lt; omega
  have H2 := Lib.hid h12
  have d1 : ∀ z : Ext W, z.1.cell? ⟨B0, 1, none⟩ = some (.int .i64 g.b) := fun z => (rS3.below z.2).cell 1 _ rfl
  have d2 : ∀ z : Ext W, z.1.cell? ⟨B0, 2, none⟩ = some (.int .i64 g.s) := fun z => (rS3.below z.2).cell 2 _ rfl
  have d3 : ∀ z : Ext W, z.1.cell? ⟨B0, 3, none⟩ = some (.int .i64 g.y) := fun z => (rS3.below z.2).cell 3 _ rfl
  have d4 : ∀ z : Ext W, z.1.cell? ⟨B0, 4, none⟩ = some (.int .i64 g.a) := fun z => (rS3.below z.2).cell 4 _ rfl
  have d5 : ∀ z : Ext W, z.1.cell? ⟨B0, 5, none⟩ = some (.int .i64 g.r) := fun z => (rS3.below z.2).cell 5 _ rfl
  have d6 : ∀ z : Ext W, z.1.cell? ⟨B0, 6, none⟩ = some (.int .i64 a) := fun z => (rS3.below z.2).cell 6 _ rfl
  have d7 : ∀ z : Ext W, z.1.cell? ⟨B0, 7, none⟩ = some (.int .u32 q) := fun z => (rS3.below z.2).cell 7 _ rfl
  obtain ⟨i1, i2, i3, i4, i5, i6, i7, i8, i9, i10, i11, i12, i13, i14⟩ := hI.of
  have HP1 : Hid (∀ x : World, Calls Tryz.prog 137 #[.int .u64 g.b, .int .i64 2] x fun e w' => ∃ ad c, e = .returned (.slice ad 2 c) ∧ Sl .u8 w' (.slice ad 2 c) (putL g.b 2) ∧ Below x.heap.size x w') := fun x => put_sl (x := x) g.b 2 (by omega) (by omega) (by omega) (by omega)
  have HP2 : Hid (∀ x : World, Calls Tryz.prog 137 #[.int .u64 g.s, .int .i64 1] x fun e w' => ∃ ad c, e = .returned (.slice ad 1 c) ∧ Sl .u8 w' (.slice ad 1 c) (putL g.s 1) ∧ Below x.heap.size x w') := fun x => put_sl (x := x) g.s 1 (by omega) (by omega) (by omega) (by omega)
  have HP3 : Hid (∀ x : World, Calls Tryz.prog 137 #[.int .u64 g.y, .int .i64 1] x fun e w' => ∃ ad c, e = .returned (.slice ad 1 c) ∧ Sl .u8 w' (.slice ad 1 c) (putL g.y 1) ∧ Below x.heap.size x w') := fun x => put_sl (x := x) g.y 1 (by omega) (by omega) (by omega) (by omega)
  have HP4 : Hid (∀ x : World, Calls Tryz.prog 137 #[.int .u64 g.a, .int .i64 2] x fun e w' => ∃ ad c, e = .returned (.slice ad 2 c) ∧ Sl .u8 w' (.slice ad 2 c) (putL g.a 2) ∧ Below x.heap.size x w') := fun x => put_sl (x := x) g.a 2 (by omega) (by omega) (by omega) (by omega)
  have HP5 : Hid (∀ x : World, Calls Tryz.prog 137 #[.int .u64 g.r, .int .i64 2] x fun e w' => ∃ ad c, e = .returned (.slice ad 2 c) ∧ Sl .u8 w' (.slice ad 2 c) (putL g.r 2) ∧ Below x.heap.size x w') := fun x => put_sl (x := x) g.r 2 (by omega) (by omega) (by omega) (by omega)
  have HP6 : Hid (∀ x : World, Calls Tryz.prog 137 #[.int .u64 a, .int .i64 2] x fun e w' => ∃ ad c, e = .returned (.slice ad 2 c) ∧ Sl .u8 w' (.slice ad 2 c) (putL a 2) ∧ Below x.heap.size x w') := fun x => put_sl (x := x) a 2 (by omega) (by omega) (by omega) (by omega)
  have HP7 : Hid (∀ x : World, Calls Tryz.prog 137 #[.int .u64 q, .int .i64 4] x fun e w' => ∃ ad c, e = .returned (.slice ad 4 c) ∧ Sl .u8 w' (.slice ad 4 c) (putL q 4) ∧ Below x.heap.size x w') := fun x => put_sl (x := x) q 4 (by omega) (by omega) (by omega) (by omega)
  obtain ⟨P, hP⟩ : ∃ P, supSctI gen g a q = P := ⟨_, rfl⟩
  have HPP := Lib.hid hP
  rw [hP]
  have hmx : Tryz.prog.follows .mixedOrders = true := by kernel_rfl
  clear r1 b1 b2 r2 r3 b3 rS hb12 rS3 r23 h01 h12 hI hP
  go_enter Tryz.func102, Tryz.ntmps102
  go_wp2_with fail
  refine region_plan (fun x => ∃ y : Ext W, x = y.1) 41 (.takes [0, 1, 4, 5, 6, 7, 9, 10, 11, 12, 14, 15, 16, 17, 19, 20, 21, 22, 24, 25, 26, 27, 29, 30, 31, 32, 34, 35, 36, 37] (.two 2 8 (.two 3 8 (.one 8 (.one 13 (.one 18 (.one 23 (.one 28 (.one 33 (.one 38 (.one 39 (.one 40 .leaf))))))))) (.two 3 13 (.one 13 (.one 18 (.one 23 (.one 28 (.one 33 (.one 38 (.one 39 (.one 40 .leaf)))))))) (.two 3 18 (.one 18 (.one 23 (.one 28 (.one 33 (.one 38 (.one 39 (.one 40 .leaf))))))) (.two 3 23 (.one 23 (.one 28 (.one 33 (.one 38 (.one 39 (.one 40 .leaf)))))) (.two 3 28 (.one 28 (.one 33 (.one 38 (.one 39 (.one 40 .leaf))))) (.two 3 33 (.one 33 (.one 38 (.one 39 (.one 40 .leaf)))) (.two 3 38 (.one 38 (.one 39 (.one 40 .leaf))) (.one 3 (.one 39 (.one 40 .leaf)))))))))) (.two 2 13 (.two 3 13 (.one 13 (.one 18 (.one 23 (.one 28 (.one 33 (.one 38 (.one 39 (.one 40 .leaf)))))))) (.two 3 18 (.one 18 (.one 23 (.one 28 (.one 33 (.one 38 (.one 39 (.one 40 .leaf))))))) (.two 3 23 (.one 23 (.one 28 (.one 33 (.one 38 (.one 39 (.one 40 .leaf)))))) (.two 3 28 (.one 28 (.one 33 (.one 38 (.one 39 (.one 40 .leaf))))) (.two 3 33 (.one 33 (.one 38 (.one 39 (.one 40 .leaf)))) (.two 3 38 (.one 38 (.one 39 (.one 40 .leaf))) (.one 3 (.one 39 (.one 40 .leaf))))))))) (.two 2 18 (.two 3 18 (.one 18 (.one 23 (.one 28 (.one 33 (.one 38 (.one 39 (.one 40 .leaf))))))) (.two 3 23 (.one 23 (.one 28 (.one 33 (.one 38 (.one 39 (.one 40 .leaf)))))) (.two 3 28 (.one 28 (.one 33 (.one 38 (.one 39 (.one 40 .leaf))))) (.two 3 33 (.one 33 (.one 38 (.one 39 (.one 40 .leaf)))) (.two 3 38 (.one 38 (.one 39 (.one 40 .leaf))) (.one 3 (.one 39 (.one 40 .leaf)))))))) (.two 2 23 (.two 3 23 (.one 23 (.one 28 (.one 33 (.one 38 (.one 39 (.one 40 .leaf)))))) (.two 3 28 (.one 28 (.one 33 (.one 38 (.one 39 (.one 40 .leaf))))) (.two 3 33 (.one 33 (.one 38 (.one 39 (.one 40 .leaf)))) (.two 3 38 (.one 38 (.one 39 (.one 40 .leaf))) (.one 3 (.one 39 (.one 40 .leaf))))))) (.two 2 28 (.two 3 28 (.one 28 (.one 33 (.one 38 (.one 39 (.one 40 .leaf))))) (.two 3 33 (.one 33 (.one 38 (.one 39 (.one 40 .leaf)))) (.two 3 38 (.one 38 (.one 39 (.one 40 .leaf))) (.one 3 (.one 39 (.one 40 .leaf)))))) (.two 2 33 (.two 3 33 (.one 33 (.one 38 (.one 39 (.one 40 .leaf)))) (.two 3 38 (.one 38 (.one 39 (.one 40 .leaf))) (.one 3 (.one 39 (.one 40 .leaf))))) (.two 2 38 (.two 3 38 (.one 38 (.one 39 (.one 40 .leaf))) (.one 3 (.one 39 (.one 40 .leaf)))) (.one 2 (.one 3 (.one 39 (.one 40 .leaf)))))))))))) hmx (by kernel_rfl) (by intro c x v a w h; cases x <;> exact h) ⟨⟨W.drew, (Below.refl _ W).drew⟩, rfl⟩ ?_
  repeat (rw [wpPlan_takes_cons]; simp only [nth_zero, nth_succ]; go_big_quiet_step (fail); refine wpQuiet_nil ?_)
  rw [wpPlan_takes_nil]
  clear ST c0 d1 d2 d3 d4 d5 d6 d7 i1 i2 i3 i4 i5 i6 i7 i8 i9 i10 i11 i12 i13 i14 hW1 hW2 hB1 hB2
  have K0 : Hid (Below W.heap.size W W.drew) := (Below.refl _ W).drew
  obtain ⟨x0, hx0⟩ : ∃ x, W.drew = x := ⟨_, rfl⟩
  rw [hx0] at K0
  try rw [hx0]
  clear hx0
  refine plan_have (ι := Nat × Option Addr × Nat × Option Addr × Nat × Option Addr × Nat × Option Addr × Nat × Option Addr × Nat × Option Addr × Nat × Option Addr × Nat) (.one 39 (.one 40 .leaf)) (fun i => { tmps := #[.agg (supC gen g a q).toArray, .pointer (some ⟨B0, 0, none⟩), .pointer (some ⟨B1, 0, none⟩), .pointer (some ⟨B2, 0, none⟩), .pointer (some ⟨B0, 0, none⟩), .int .u32 gen, .agg ((zcs.set 0 (.int .u8 83)).set 1 (.int .u32 gen)).toArray, .pointer (some ⟨B2, 3, none⟩), .slice (some ⟨B2, 3, none⟩) 48 48, .slice (some ⟨i.1, 0, none⟩) 4 4, .slice (some ⟨i.1, 0, none⟩) 4 4, .pointer (some ⟨B0, 1, none⟩), .pointer (some ⟨B0, 1, none⟩), .int .i64 g.b, .int .u64 g.b, .slice i.2.1 2 i.2.2.1, .pointer (some ⟨B0, 1, none⟩), .pointer (some ⟨B0, 2, none⟩), .int .i64 g.s, .int .u64 g.s, .slice i.2.2.2.1 1 i.2.2.2.2.1, .pointer (some ⟨B0, 1, none⟩), .pointer (some ⟨B0, 3, none⟩), .int .i64 g.y, .int .u64 g.y, .slice i.2.2.2.2.2.1 1 i.2.2.2.2.2.2.1, .pointer (some ⟨B0, 1, none⟩), .pointer (some ⟨B0, 4, none⟩), .int .i64 g.a, .int .u64 g.a, .slice i.2.2.2.2.2.2.2.1 2 i.2.2.2.2.2.2.2.2.1, .pointer (some ⟨B0, 1, none⟩), .pointer (some ⟨B0, 5, none⟩), .int .i64 g.r, .int .u64 g.r, .slice i.2.2.2.2.2.2.2.2.2.1 2 i.2.2.2.2.2.2.2.2.2.2.1, .pointer (some ⟨B0, 6, none⟩), .pointer (some ⟨B0, 6, none⟩), .int .i64 a, .int .u64 a, .slice i.2.2.2.2.2.2.2.2.2.2.2.1 2 i.2.2.2.2.2.2.2.2.2.2.2.2.1, .pointer (some ⟨B0, 6, none⟩), .pointer (some ⟨B0, 7, none⟩), .int .u32 q, .int .u64 q, .slice i.2.2.2.2.2.2.2.2.2.2.2.2.2.1 4 i.2.2.2.2.2.2.2.2.2.2.2.2.2.2, undef, undef, undef, undef], defers := [] }) (fun i x => Hid (Below W.heap.size W x) ∧ Hid (AllSl x [(.slice i.2.2.2.2.2.2.2.2.2.2.2.2.2.1 4 i.2.2.2.2.2.2.2.2.2.2.2.2.2.2, putL q 4), (.slice i.2.2.2.2.2.2.2.2.2.2.2.1 2 i.2.2.2.2.2.2.2.2.2.2.2.2.1, putL a 2), (.slice i.2.2.2.2.2.2.2.2.2.1 2 i.2.2.2.2.2.2.2.2.2.2.1, putL g.r 2), (.slice i.2.2.2.2.2.2.2.1 2 i.2.2.2.2.2.2.2.2.1, putL g.a 2), (.slice i.2.2.2.2.2.1 1 i.2.2.2.2.2.2.1, putL g.y 1), (.slice i.2.2.2.1 1 i.2.2.2.2.1, putL g.s 1), (.slice i.2.1 2 i.2.2.1, putL g.b 2)]) ∧ Hid (Sl .u8 x (.slice (some ⟨i.1, 0, none⟩) 4 4) [82, 86, 84, 49])) ?_ ?_
  · rintro ⟨L, a1, n1, a2, n2, a3, n3, a4, n4, a5, n5, a6, n6, a7, n7⟩ x ⟨K, S, Z⟩
    dsimp only
    try dsimp only at S Z
    as_aux_lemma =>
      rw [wpPlan_one]
      simp only [nth_zero, nth_succ]
      obtain ⟨x1, hx⟩ : ∃ y, x.alloc (.cells #[.slice (some ⟨L, 0, none⟩) 4 4, .slice a1 2 n1, .slice a2 1 n2, .slice a3 1 n3, .slice a4 2 n4, .slice a5 2 n5, .slice a6 2 n6, .slice a7 4 n7] 37) = y := ⟨_, rfl⟩
      have hb : Below x.heap.size x x1 := by rw [← hx]; exact below_new x _
      have r4 : x1.heap[x.heap.size]? = some (.cells #[.slice (some ⟨L, 0, none⟩) 4 4, .slice a1 2 n1, .slice a2 1 n2, .slice a3 1 n3, .slice a4 2 n4, .slice a5 2 n5, .slice a6 2 n6, .slice a7 4 n7] 37 (0, 0)) := by rw [← hx]; exact heap_alloc_new x _
      have BS : (Instr.buildSlice 238 8 #[(0, .slice (some ⟨L, 0, none⟩) 4 4), (1, .slice a1 2 n1), (2, .slice a2 1 n2), (3, .slice a3 1 n3), (4, .slice a4 2 n4), (5, .slice a5 2 n5), (6, .slice a6 2 n6), (7, .slice a7 4 n7)]).run Tryz.prog x = .ok (.slice (some ⟨x.heap.size, 0, none⟩) 8 8) x1 := by rw [← hx]; exact build_sls8 x (some ⟨L, 0, none⟩) a1 a2 a3 a4 a5 a6 a7 4 2 1 1 2 2 2 4 4 n1 n2 n3 n4 n5 n6 n7
      have K1 : Hid (Below W.heap.size W x1) := K.out.trans (hb.mono K.out.size)
      have S1 := Lib.hid (S.out.below hb)
      have SS : Hid (Sls x1 (.slice (some ⟨x.heap.size, 0, none⟩) 8 8) [[82, 86, 84, 49], putL g.b 2, putL g.s 1, putL g.y 1, putL g.a 2, putL g.r 2, putL a 2, putL q 4]) := by
        refine ⟨x.heap.size, 8, rfl, Nat.le_refl _, by unfold maxLen; omega, by rw [← hx]; simp, fun k hk => ?_⟩
        have hk' : k < 8 := hk
        match k, hk' with
          | 0, _ => exact ⟨_, cell_of_row _ _ 0 _ _ _ r4, Z.out.below hb⟩
          | 1, _ => exact ⟨_, cell_of_row _ _ 1 _ _ _ r4, S1.out (.slice a1 2 n1, putL g.b 2) (by simp)⟩
          | 2, _ => exact ⟨_, cell_of_row _ _ 2 _ _ _ r4, S1.out (.slice a2 1 n2, putL g.s 1) (by simp)⟩
          | 3, _ => exact ⟨_, cell_of_row _ _ 3 _ _ _ r4, S1.out (.slice a3 1 n3, putL g.y 1) (by simp)⟩
          | 4, _ => exact ⟨_, cell_of_row _ _ 4 _ _ _ r4, S1.out (.slice a4 2 n4, putL g.a 2) (by simp)⟩
          | 5, _ => exact ⟨_, cell_of_row _ _ 5 _ _ _ r4, S1.out (.slice a5 2 n5, putL g.r 2) (by simp)⟩
          | 6, _ => exact ⟨_, cell_of_row _ _ 6 _ _ _ r4, S1.out (.slice a6 2 n6, putL a 2) (by simp)⟩
          | 7, _ => exact ⟨_, cell_of_row _ _ 7 _ _ _ r4, S1.out (.slice a7 4 n7, putL q 4) (by simp)⟩
      clear hb r4 hx S S1
      refine wpList_build_run _ _ _ rfl rfl _ _ rfl BS ?_
      clear BS
      go_wp2_with fail
      refine planPost_mk ⟨⟨x1, K1.out⟩, rfl⟩ ?_
      rw [wpPlan_one]
      simp only [nth_zero, nth_succ]
      go_wp2_with fail
      go_at_call 136
      have hfl : [[82, 86, 84, 49], putL g.b 2, putL g.s 1, putL g.y 1, putL g.a 2, putL g.r 2, putL a 2, putL q 4].flatten = supHead g a q := by simp [supHead]
      have hcc := concat_any _ _ x1 SS.out (by rw [hfl, supHead_length]; omega)
      rw [hfl] at hcc
      refine hcc.mono ?_
      clear hcc hfl
      rintro e y5 ⟨v5, rfl, hrow, hb⟩
      have K5 : Hid (Below W.heap.size W y5) := K1.out.trans (hb.mono K1.out.size)
      have S5' : Sl .u8 y5 v5 (supHead g a q) := Sl.of_owns (bs := supHead g a q) hrow
      obtain ⟨a5, c5, hv5, -⟩ := id S5'
      subst hv5
      have hP := R3.out.below K5.out
      obtain ⟨RC, LD⟩ := sup_tail hP S5'
      obtain ⟨y6, hy6⟩ : ∃ y, y5.setCells B2 3 (u8s (supHead g a q)) = y := ⟨_, rfl⟩
      rw [hy6] at RC LD
      rw [HPP.out] at LD
      have B6 : Below w.heap.size w y6 := by rw [← hy6]; exact (HB0.out.trans (K5.out.mono HB0.out.size)).trans ((below_cells (N := w.heap.size) H2.out _ _ _).mono (Nat.le_refl _))
      have hne : B1 ≠ B2 := HNE.out
      have r6 : y6.heap[B1]? = some (.cells zcs.toArray 189 (0, 0)) := by
        rw [← hy6]
        exact (World.heap_setCells_other _ _ _ _ (Nat.lt_of_lt_of_le R1.out.lt K5.out.size) hne).trans (R1.out.below K5.out)
      obtain ⟨y7, ST7, LD7, hb7⟩ := pg_cell (w := w) (x := y6) (B := B1) (u := P.cells) r6 zcs_len H1.out B6 (by rw [← HPP.out]; exact Sct.cells_length (supSctI_len gen g a q)) (Sct.cells_one _)
      have HL7 := Lib.hid LD7
      have HB7 := Lib.hid hb7
      clear hrow hb S5' hP r6 B6 hy6 SS LD7 hb7 hne
      go_wp2_with fail
      refine planPost_mk ⟨⟨y5, K5.out⟩, rfl⟩ ?_
      rw [wpPlan_leaf]
      simp only [List.drop_succ_cons, List.drop_zero]
      go_wp2_with fail
      exact bodyPost_ret (results_cell rfl rfl HL7.out) rfl ⟨rfl, HB7.out⟩
  intro T72
  refine plan_have (ι := Nat × Option Addr × Nat × Option Addr × Nat × Option Addr × Nat × Option Addr × Nat × Option Addr × Nat × Option Addr × Nat) (.one 38 (.one 39 (.one 40 .leaf))) (fun i => { tmps := #[.agg (supC gen g a q).toArray, .pointer (some ⟨B0, 0, none⟩), .pointer (some ⟨B1, 0, none⟩), .pointer (some ⟨B2, 0, none⟩), .pointer (some ⟨B0, 0, none⟩), .int .u32 gen, .agg ((zcs.set 0 (.int .u8 83)).set 1 (.int .u32 gen)).toArray, .pointer (some ⟨B2, 3, none⟩), .slice (some ⟨B2, 3, none⟩) 48 48, .slice (some ⟨i.1, 0, none⟩) 4 4, .slice (some ⟨i.1, 0, none⟩) 4 4, .pointer (some ⟨B0, 1, none⟩), .pointer (some ⟨B0, 1, none⟩), .int .i64 g.b, .int .u64 g.b, .slice i.2.1 2 i.2.2.1, .pointer (some ⟨B0, 1, none⟩), .pointer (some ⟨B0, 2, none⟩), .int .i64 g.s, .int .u64 g.s, .slice i.2.2.2.1 1 i.2.2.2.2.1, .pointer (some ⟨B0, 1, none⟩), .pointer (some ⟨B0, 3, none⟩), .int .i64 g.y, .int .u64 g.y, .slice i.2.2.2.2.2.1 1 i.2.2.2.2.2.2.1, .pointer (some ⟨B0, 1, none⟩), .pointer (some ⟨B0, 4, none⟩), .int .i64 g.a, .int .u64 g.a, .slice i.2.2.2.2.2.2.2.1 2 i.2.2.2.2.2.2.2.2.1, .pointer (some ⟨B0, 1, none⟩), .pointer (some ⟨B0, 5, none⟩), .int .i64 g.r, .int .u64 g.r, .slice i.2.2.2.2.2.2.2.2.2.1 2 i.2.2.2.2.2.2.2.2.2.2.1, .pointer (some ⟨B0, 6, none⟩), .pointer (some ⟨B0, 6, none⟩), .int .i64 a, .int .u64 a, .slice i.2.2.2.2.2.2.2.2.2.2.2.1 2 i.2.2.2.2.2.2.2.2.2.2.2.2, .pointer (some ⟨B0, 6, none⟩), .pointer (some ⟨B0, 7, none⟩), .int .u32 q, .int .u64 q, undef, undef, undef, undef, undef], defers := [] }) (fun i x => Hid (Below W.heap.size W x) ∧ Hid (AllSl x [(.slice i.2.2.2.2.2.2.2.2.2.2.2.1 2 i.2.2.2.2.2.2.2.2.2.2.2.2, putL a 2), (.slice i.2.2.2.2.2.2.2.2.2.1 2 i.2.2.2.2.2.2.2.2.2.2.1, putL g.r 2), (.slice i.2.2.2.2.2.2.2.1 2 i.2.2.2.2.2.2.2.2.1, putL g.a 2), (.slice i.2.2.2.2.2.1 1 i.2.2.2.2.2.2.1, putL g.y 1), (.slice i.2.2.2.1 1 i.2.2.2.2.1, putL g.s 1), (.slice i.2.1 2 i.2.2.1, putL g.b 2)]) ∧ Hid (Sl .u8 x (.slice (some ⟨i.1, 0, none⟩) 4 4) [82, 86, 84, 49])) ?_ ?_
  · rintro ⟨L, a1, n1, a2, n2, a3, n3, a4, n4, a5, n5, a6, n6⟩ x ⟨K, S, Z⟩
    dsimp only
    try dsimp only at S Z
    as_aux_lemma =>
      rw [wpPlan_one]
      simp only [nth_zero, nth_succ]
      go_wp2_with fail
      go_at_call 137
      refine (HP7.out _).mono ?_
      rintro e x1 ⟨a7, n7, rfl, hs, hb⟩
      have K1 : Hid (Below W.heap.size W x1) := K.out.trans (hb.mono K.out.size)
      have S1 := Lib.hid (S.out.put hb hs)
      have Z1 := Lib.hid (Z.out.below hb)
      clear hs hb
      go_wp2_with fail
      refine planPost_mk ⟨⟨x1, K1.out⟩, rfl⟩ ?_
      exact T72 (L, a1, n1, a2, n2, a3, n3, a4, n4, a5, n5, a6, n6, a7, n7) x1 ⟨K1, S1, Z1⟩
  intro T62
  refine plan_have (ι := Nat × Option Addr × Nat × Option Addr × Nat × Option Addr × Nat × Option Addr × Nat × Option Addr × Nat) (.one 33 (.one 38 (.one 39 (.one 40 .leaf)))) (fun i => { tmps := #[.agg (supC gen g a q).toArray, .pointer (some ⟨B0, 0, none⟩), .pointer (some ⟨B1, 0, none⟩), .pointer (some ⟨B2, 0, none⟩), .pointer (some ⟨B0, 0, none⟩), .int .u32 gen, .agg ((zcs.set 0 (.int .u8 83)).set 1 (.int .u32 gen)).toArray, .pointer (some ⟨B2, 3, none⟩), .slice (some ⟨B2, 3, none⟩) 48 48, .slice (some ⟨i.1, 0, none⟩) 4 4, .slice (some ⟨i.1, 0, none⟩) 4 4, .pointer (some ⟨B0, 1, none⟩), .pointer (some ⟨B0, 1, none⟩), .int .i64 g.b, .int .u64 g.b, .slice i.2.1 2 i.2.2.1, .pointer (some ⟨B0, 1, none⟩), .pointer (some ⟨B0, 2, none⟩), .int .i64 g.s, .int .u64 g.s, .slice i.2.2.2.1 1 i.2.2.2.2.1, .pointer (some ⟨B0, 1, none⟩), .pointer (some ⟨B0, 3, none⟩), .int .i64 g.y, .int .u64 g.y, .slice i.2.2.2.2.2.1 1 i.2.2.2.2.2.2.1, .pointer (some ⟨B0, 1, none⟩), .pointer (some ⟨B0, 4, none⟩), .int .i64 g.a, .int .u64 g.a, .slice i.2.2.2.2.2.2.2.1 2 i.2.2.2.2.2.2.2.2.1, .pointer (some ⟨B0, 1, none⟩), .pointer (some ⟨B0, 5, none⟩), .int .i64 g.r, .int .u64 g.r, .slice i.2.2.2.2.2.2.2.2.2.1 2 i.2.2.2.2.2.2.2.2.2.2, .pointer (some ⟨B0, 6, none⟩), .pointer (some ⟨B0, 6, none⟩), .int .i64 a, .int .u64 a, undef, .pointer (some ⟨B0, 6, none⟩), .pointer (some ⟨B0, 7, none⟩), .int .u32 q, .int .u64 q, undef, undef, undef, undef, undef], defers := [] }) (fun i x => Hid (Below W.heap.size W x) ∧ Hid (AllSl x [(.slice i.2.2.2.2.2.2.2.2.2.1 2 i.2.2.2.2.2.2.2.2.2.2, putL g.r 2), (.slice i.2.2.2.2.2.2.2.1 2 i.2.2.2.2.2.2.2.2.1, putL g.a 2), (.slice i.2.2.2.2.2.1 1 i.2.2.2.2.2.2.1, putL g.y 1), (.slice i.2.2.2.1 1 i.2.2.2.2.1, putL g.s 1), (.slice i.2.1 2 i.2.2.1, putL g.b 2)]) ∧ Hid (Sl .u8 x (.slice (some ⟨i.1, 0, none⟩) 4 4) [82, 86, 84, 49])) ?_ ?_
  · rintro ⟨L, a1, n1, a2, n2, a3, n3, a4, n4, a5, n5⟩ x ⟨K, S, Z⟩
    dsimp only
    try dsimp only at S Z
    as_aux_lemma =>
      rw [wpPlan_one]
      simp only [nth_zero, nth_succ]
      go_wp2_with fail
      go_at_call 137
      refine (HP6.out _).mono ?_
      rintro e x1 ⟨a6, n6, rfl, hs, hb⟩
      have K1 : Hid (Below W.heap.size W x1) := K.out.trans (hb.mono K.out.size)
      have S1 := Lib.hid (S.out.put hb hs)
      have Z1 := Lib.hid (Z.out.below hb)
      clear hs hb
      go_wp2_with fail
      refine planPost_mk ⟨⟨x1, K1.out⟩, rfl⟩ ?_
      exact T62 (L, a1, n1, a2, n2, a3, n3, a4, n4, a5, n5, a6, n6) x1 ⟨K1, S1, Z1⟩
  intro T52
  refine plan_have (ι := Nat × Option Addr × Nat × Option Addr × Nat × Option Addr × Nat × Option Addr × Nat) (.one 28 (.one 33 (.one 38 (.one 39 (.one 40 .leaf))))) (fun i => { tmps := #[.agg (supC gen g a q).toArray, .pointer (some ⟨B0, 0, none⟩), .pointer (some ⟨B1, 0, none⟩), .pointer (some ⟨B2, 0, none⟩), .pointer (some ⟨B0, 0, none⟩), .int .u32 gen, .agg ((zcs.set 0 (.int .u8 83)).set 1 (.int .u32 gen)).toArray, .pointer (some ⟨B2, 3, none⟩), .slice (some ⟨B2, 3, none⟩) 48 48, .slice (some ⟨i.1, 0, none⟩) 4 4, .slice (some ⟨i.1, 0, none⟩) 4 4, .pointer (some ⟨B0, 1, none⟩), .pointer (some ⟨B0, 1, none⟩), .int .i64 g.b, .int .u64 g.b, .slice i.2.1 2 i.2.2.1, .pointer (some ⟨B0, 1, none⟩), .pointer (some ⟨B0, 2, none⟩), .int .i64 g.s, .int .u64 g.s, .slice i.2.2.2.1 1 i.2.2.2.2.1, .pointer (some ⟨B0, 1, none⟩), .pointer (some ⟨B0, 3, none⟩), .int .i64 g.y, .int .u64 g.y, .slice i.2.2.2.2.2.1 1 i.2.2.2.2.2.2.1, .pointer (some ⟨B0, 1, none⟩), .pointer (some ⟨B0, 4, none⟩), .int .i64 g.a, .int .u64 g.a, .slice i.2.2.2.2.2.2.2.1 2 i.2.2.2.2.2.2.2.2, .pointer (some ⟨B0, 1, none⟩), .pointer (some ⟨B0, 5, none⟩), .int .i64 g.r, .int .u64 g.r, undef, .pointer (some ⟨B0, 6, none⟩), .pointer (some ⟨B0, 6, none⟩), .int .i64 a, .int .u64 a, undef, .pointer (some ⟨B0, 6, none⟩), .pointer (some ⟨B0, 7, none⟩), .int .u32 q, .int .u64 q, undef, undef, undef, undef, undef], defers := [] }) (fun i x => Hid (Below W.heap.size W x) ∧ Hid (AllSl x [(.slice i.2.2.2.2.2.2.2.1 2 i.2.2.2.2.2.2.2.2, putL g.a 2), (.slice i.2.2.2.2.2.1 1 i.2.2.2.2.2.2.1, putL g.y 1), (.slice i.2.2.2.1 1 i.2.2.2.2.1, putL g.s 1), (.slice i.2.1 2 i.2.2.1, putL g.b 2)]) ∧ Hid (Sl .u8 x (.slice (some ⟨i.1, 0, none⟩) 4 4) [82, 86, 84, 49])) ?_ ?_
  · rintro ⟨L, a1, n1, a2, n2, a3, n3, a4, n4⟩ x ⟨K, S, Z⟩
    dsimp only
    try dsimp only at S Z
    as_aux_lemma =>
      rw [wpPlan_one]
      simp only [nth_zero, nth_succ]
      go_wp2_with fail
      go_at_call 137
      refine (HP5.out _).mono ?_
      rintro e x1 ⟨a5, n5, rfl, hs, hb⟩
      have K1 : Hid (Below W.heap.size W x1) := K.out.trans (hb.mono K.out.size)
      have S1 := Lib.hid (S.out.put hb hs)
      have Z1 := Lib.hid (Z.out.below hb)
      clear hs hb
      go_wp2_with fail
      refine planPost_mk ⟨⟨x1, K1.out⟩, rfl⟩ ?_
      exact T52 (L, a1, n1, a2, n2, a3, n3, a4, n4, a5, n5) x1 ⟨K1, S1, Z1⟩
  intro T42
  refine plan_have (ι := Nat × Option Addr × Nat × Option Addr × Nat × Option Addr × Nat) (.one 23 (.one 28 (.one 33 (.one 38 (.one 39 (.one 40 .leaf)))))) (fun i => { tmps := #[.agg (supC gen g a q).toArray, .pointer (some ⟨B0, 0, none⟩), .pointer (some ⟨B1, 0, none⟩), .pointer (some ⟨B2, 0, none⟩), .pointer (some ⟨B0, 0, none⟩), .int .u32 gen, .agg ((zcs.set 0 (.int .u8 83)).set 1 (.int .u32 gen)).toArray, .pointer (some ⟨B2, 3, none⟩), .slice (some ⟨B2, 3, none⟩) 48 48, .slice (some ⟨i.1, 0, none⟩) 4 4, .slice (some ⟨i.1, 0, none⟩) 4 4, .pointer (some ⟨B0, 1, none⟩), .pointer (some ⟨B0, 1, none⟩), .int .i64 g.b, .int .u64 g.b, .slice i.2.1 2 i.2.2.1, .pointer (some ⟨B0, 1, none⟩), .pointer (some ⟨B0, 2, none⟩), .int .i64 g.s, .int .u64 g.s, .slice i.2.2.2.1 1 i.2.2.2.2.1, .pointer (some ⟨B0, 1, none⟩), .pointer (some ⟨B0, 3, none⟩), .int .i64 g.y, .int .u64 g.y, .slice i.2.2.2.2.2.1 1 i.2.2.2.2.2.2, .pointer (some ⟨B0, 1, none⟩), .pointer (some ⟨B0, 4, none⟩), .int .i64 g.a, .int .u64 g.a, undef, .pointer (some ⟨B0, 1, none⟩), .pointer (some ⟨B0, 5, none⟩), .int .i64 g.r, .int .u64 g.r, undef, .pointer (some ⟨B0, 6, none⟩), .pointer (some ⟨B0, 6, none⟩), .int .i64 a, .int .u64 a, undef, .pointer (some ⟨B0, 6, none⟩), .pointer (some ⟨B0, 7, none⟩), .int .u32 q, .int .u64 q, undef, undef, undef, undef, undef], defers := [] }) (fun i x => Hid (Below W.heap.size W x) ∧ Hid (AllSl x [(.slice i.2.2.2.2.2.1 1 i.2.2.2.2.2.2, putL g.y 1), (.slice i.2.2.2.1 1 i.2.2.2.2.1, putL g.s 1), (.slice i.2.1 2 i.2.2.1, putL g.b 2)]) ∧ Hid (Sl .u8 x (.slice (some ⟨i.1, 0, none⟩) 4 4) [82, 86, 84, 49])) ?_ ?_
  · rintro ⟨L, a1, n1, a2, n2, a3, n3⟩ x ⟨K, S, Z⟩
    dsimp only
    try dsimp only at S Z
    as_aux_lemma =>
      rw [wpPlan_one]
      simp only [nth_zero, nth_succ]
      go_wp2_with fail
      go_at_call 137
      refine (HP4.out _).mono ?_
      rintro e x1 ⟨a4, n4, rfl, hs, hb⟩
      have K1 : Hid (Below W.heap.size W x1) := K.out.trans (hb.mono K.out.size)
      have S1 := Lib.hid (S.out.put hb hs)
      have Z1 := Lib.hid (Z.out.below hb)
      clear hs hb
      go_wp2_with fail
      refine planPost_mk ⟨⟨x1, K1.out⟩, rfl⟩ ?_
      exact T42 (L, a1, n1, a2, n2, a3, n3, a4, n4) x1 ⟨K1, S1, Z1⟩
  intro T32
  refine plan_have (ι := Nat × Option Addr × Nat × Option Addr × Nat) (.one 18 (.one 23 (.one 28 (.one 33 (.one 38 (.one 39 (.one 40 .leaf))))))) (fun i => { tmps := #[.agg (supC gen g a q).toArray, .pointer (some ⟨B0, 0, none⟩), .pointer (some ⟨B1, 0, none⟩), .pointer (some ⟨B2, 0, none⟩), .pointer (some ⟨B0, 0, none⟩), .int .u32 gen, .agg ((zcs.set 0 (.int .u8 83)).set 1 (.int .u32 gen)).toArray, .pointer (some ⟨B2, 3, none⟩), .slice (some ⟨B2, 3, none⟩) 48 48, .slice (some ⟨i.1, 0, none⟩) 4 4, .slice (some ⟨i.1, 0, none⟩) 4 4, .pointer (some ⟨B0, 1, none⟩), .pointer (some ⟨B0, 1, none⟩), .int .i64 g.b, .int .u64 g.b, .slice i.2.1 2 i.2.2.1, .pointer (some ⟨B0, 1, none⟩), .pointer (some ⟨B0, 2, none⟩), .int .i64 g.s, .int .u64 g.s, .slice i.2.2.2.1 1 i.2.2.2.2, .pointer (some ⟨B0, 1, none⟩), .pointer (some ⟨B0, 3, none⟩), .int .i64 g.y, .int .u64 g.y, undef, .pointer (some ⟨B0, 1, none⟩), .pointer (some ⟨B0, 4, none⟩), .int .i64 g.a, .int .u64 g.a, undef, .pointer (some ⟨B0, 1, none⟩), .pointer (some ⟨B0, 5, none⟩), .int .i64 g.r, .int .u64 g.r, undef, .pointer (some ⟨B0, 6, none⟩), .pointer (some ⟨B0, 6, none⟩), .int .i64 a, .int .u64 a, undef, .pointer (some ⟨B0, 6, none⟩), .pointer (some ⟨B0, 7, none⟩), .int .u32 q, .int .u64 q, undef, undef, undef, undef, undef], defers := [] }) (fun i x => Hid (Below W.heap.size W x) ∧ Hid (AllSl x [(.slice i.2.2.2.1 1 i.2.2.2.2, putL g.s 1), (.slice i.2.1 2 i.2.2.1, putL g.b 2)]) ∧ Hid (Sl .u8 x (.slice (some ⟨i.1, 0, none⟩) 4 4) [82, 86, 84, 49])) ?_ ?_
  · rintro ⟨L, a1, n1, a2, n2⟩ x ⟨K, S, Z⟩
    dsimp only
    try dsimp only at S Z
    as_aux_lemma =>
      rw [wpPlan_one]
      simp only [nth_zero, nth_succ]
      go_wp2_with fail
      go_at_call 137
      refine (HP3.out _).mono ?_
      rintro e x1 ⟨a3, n3, rfl, hs, hb⟩
      have K1 : Hid (Below W.heap.size W x1) := K.out.trans (hb.mono K.out.size)
      have S1 := Lib.hid (S.out.put hb hs)
      have Z1 := Lib.hid (Z.out.below hb)
      clear hs hb
      go_wp2_with fail
      refine planPost_mk ⟨⟨x1, K1.out⟩, rfl⟩ ?_
      exact T32 (L, a1, n1, a2, n2, a3, n3) x1 ⟨K1, S1, Z1⟩
  intro T22
  refine plan_have (ι := Nat × Option Addr × Nat) (.one 13 (.one 18 (.one 23 (.one 28 (.one 33 (.one 38 (.one 39 (.one 40 .leaf)))))))) (fun i => { tmps := #[.agg (supC gen g a q).toArray, .pointer (some ⟨B0, 0, none⟩), .pointer (some ⟨B1, 0, none⟩), .pointer (some ⟨B2, 0, none⟩), .pointer (some ⟨B0, 0, none⟩), .int .u32 gen, .agg ((zcs.set 0 (.int .u8 83)).set 1 (.int .u32 gen)).toArray, .pointer (some ⟨B2, 3, none⟩), .slice (some ⟨B2, 3, none⟩) 48 48, .slice (some ⟨i.1, 0, none⟩) 4 4, .slice (some ⟨i.1, 0, none⟩) 4 4, .pointer (some ⟨B0, 1, none⟩), .pointer (some ⟨B0, 1, none⟩), .int .i64 g.b, .int .u64 g.b, .slice i.2.1 2 i.2.2, .pointer (some ⟨B0, 1, none⟩), .pointer (some ⟨B0, 2, none⟩), .int .i64 g.s, .int .u64 g.s, undef, .pointer (some ⟨B0, 1, none⟩), .pointer (some ⟨B0, 3, none⟩), .int .i64 g.y, .int .u64 g.y, undef, .pointer (some ⟨B0, 1, none⟩), .pointer (some ⟨B0, 4, none⟩), .int .i64 g.a, .int .u64 g.a, undef, .pointer (some ⟨B0, 1, none⟩), .pointer (some ⟨B0, 5, none⟩), .int .i64 g.r, .int .u64 g.r, undef, .pointer (some ⟨B0, 6, none⟩), .pointer (some ⟨B0, 6, none⟩), .int .i64 a, .int .u64 a, undef, .pointer (some ⟨B0, 6, none⟩), .pointer (some ⟨B0, 7, none⟩), .int .u32 q, .int .u64 q, undef, undef, undef, undef, undef], defers := [] }) (fun i x => Hid (Below W.heap.size W x) ∧ Hid (AllSl x [(.slice i.2.1 2 i.2.2, putL g.b 2)]) ∧ Hid (Sl .u8 x (.slice (some ⟨i.1, 0, none⟩) 4 4) [82, 86, 84, 49])) ?_ ?_
  · rintro ⟨L, a1, n1⟩ x ⟨K, S, Z⟩
    dsimp only
    try dsimp only at S Z
    as_aux_lemma =>
      rw [wpPlan_one]
      simp only [nth_zero, nth_succ]
      go_wp2_with fail
      go_at_call 137
      refine (HP2.out _).mono ?_
      rintro e x1 ⟨a2, n2, rfl, hs, hb⟩
      have K1 : Hid (Below W.heap.size W x1) := K.out.trans (hb.mono K.out.size)
      have S1 := Lib.hid (S.out.put hb hs)
      have Z1 := Lib.hid (Z.out.below hb)
      clear hs hb
      go_wp2_with fail
      refine planPost_mk ⟨⟨x1, K1.out⟩, rfl⟩ ?_
      exact T22 (L, a1, n1, a2, n2) x1 ⟨K1, S1, Z1⟩
  intro T12
  refine plan_have (ι := Nat) (.one 8 (.one 13 (.one 18 (.one 23 (.one 28 (.one 33 (.one 38 (.one 39 (.one 40 .leaf))))))))) (fun i => { tmps := #[.agg (supC gen g a q).toArray, .pointer (some ⟨B0, 0, none⟩), .pointer (some ⟨B1, 0, none⟩), .pointer (some ⟨B2, 0, none⟩), .pointer (some ⟨B0, 0, none⟩), .int .u32 gen, .agg ((zcs.set 0 (.int .u8 83)).set 1 (.int .u32 gen)).toArray, .pointer (some ⟨B2, 3, none⟩), .slice (some ⟨B2, 3, none⟩) 48 48, .slice (some ⟨i, 0, none⟩) 4 4, .slice (some ⟨i, 0, none⟩) 4 4, .pointer (some ⟨B0, 1, none⟩), .pointer (some ⟨B0, 1, none⟩), .int .i64 g.b, .int .u64 g.b, undef, .pointer (some ⟨B0, 1, none⟩), .pointer (some ⟨B0, 2, none⟩), .int .i64 g.s, .int .u64 g.s, undef, .pointer (some ⟨B0, 1, none⟩), .pointer (some ⟨B0, 3, none⟩), .int .i64 g.y, .int .u64 g.y, undef, .pointer (some ⟨B0, 1, none⟩), .pointer (some ⟨B0, 4, none⟩), .int .i64 g.a, .int .u64 g.a, undef, .pointer (some ⟨B0, 1, none⟩), .pointer (some ⟨B0, 5, none⟩), .int .i64 g.r, .int .u64 g.r, undef, .pointer (some ⟨B0, 6, none⟩), .pointer (some ⟨B0, 6, none⟩), .int .i64 a, .int .u64 a, undef, .pointer (some ⟨B0, 6, none⟩), .pointer (some ⟨B0, 7, none⟩), .int .u32 q, .int .u64 q, undef, undef, undef, undef, undef], defers := [] }) (fun i x => Hid (Below W.heap.size W x) ∧ Hid (AllSl x []) ∧ Hid (Sl .u8 x (.slice (some ⟨i, 0, none⟩) 4 4) [82, 86, 84, 49])) ?_ ?_
  · rintro L x ⟨K, S, Z⟩
    dsimp only
    try dsimp only at S Z
    as_aux_lemma =>
      rw [wpPlan_one]
      simp only [nth_zero, nth_succ]
      go_wp2_with fail
      go_at_call 137
      refine (HP1.out _).mono ?_
      rintro e x1 ⟨a1, n1, rfl, hs, hb⟩
      have K1 : Hid (Below W.heap.size W x1) := K.out.trans (hb.mono K.out.size)
      have S1 := Lib.hid (S.out.put hb hs)
      have Z1 := Lib.hid (Z.out.below hb)
      clear hs hb
      go_wp2_with fail
      refine planPost_mk ⟨⟨x1, K1.out⟩, rfl⟩ ?_
      exact T12 (L, a1, n1) x1 ⟨K1, S1, Z1⟩
  intro T02
  refine plan_have (ι := Nat × Option Addr × Nat × Option Addr × Nat × Option Addr × Nat × Option Addr × Nat × Option Addr × Nat × Option Addr × Nat × Option Addr × Nat) (.one 3 (.one 39 (.one 40 .leaf))) (fun i => { tmps := #[.agg (supC gen g a q).toArray, .pointer (some ⟨B0, 0, none⟩), .pointer (some ⟨B1, 0, none⟩), .pointer (some ⟨B2, 0, none⟩), .pointer (some ⟨B0, 0, none⟩), .int .u32 gen, .agg ((zcs.set 0 (.int .u8 83)).set 1 (.int .u32 gen)).toArray, .pointer (some ⟨B2, 3, none⟩), .slice (some ⟨B2, 3, none⟩) 48 48, .slice (some ⟨i.1, 0, none⟩) 4 4, undef, .pointer (some ⟨B0, 1, none⟩), .pointer (some ⟨B0, 1, none⟩), .int .i64 g.b, .int .u64 g.b, .slice i.2.1 2 i.2.2.1, .pointer (some ⟨B0, 1, none⟩), .pointer (some ⟨B0, 2, none⟩), .int .i64 g.s, .int .u64 g.s, .slice i.2.2.2.1 1 i.2.2.2.2.1, .pointer (some ⟨B0, 1, none⟩), .pointer (some ⟨B0, 3, none⟩), .int .i64 g.y, .int .u64 g.y, .slice i.2.2.2.2.2.1 1 i.2.2.2.2.2.2.1, .pointer (some ⟨B0, 1, none⟩), .pointer (some ⟨B0, 4, none⟩), .int .i64 g.a, .int .u64 g.a, .slice i.2.2.2.2.2.2.2.1 2 i.2.2.2.2.2.2.2.2.1, .pointer (some ⟨B0, 1, none⟩), .pointer (some ⟨B0, 5, none⟩), .int .i64 g.r, .int .u64 g.r, .slice i.2.2.2.2.2.2.2.2.2.1 2 i.2.2.2.2.2.2.2.2.2.2.1, .pointer (some ⟨B0, 6, none⟩), .pointer (some ⟨B0, 6, none⟩), .int .i64 a, .int .u64 a, .slice i.2.2.2.2.2.2.2.2.2.2.2.1 2 i.2.2.2.2.2.2.2.2.2.2.2.2.1, .pointer (some ⟨B0, 6, none⟩), .pointer (some ⟨B0, 7, none⟩), .int .u32 q, .int .u64 q, .slice i.2.2.2.2.2.2.2.2.2.2.2.2.2.1 4 i.2.2.2.2.2.2.2.2.2.2.2.2.2.2, undef, undef, undef, undef], defers := [] }) (fun i x => Hid (Below W.heap.size W x) ∧ Hid (AllSl x [(.slice i.2.2.2.2.2.2.2.2.2.2.2.2.2.1 4 i.2.2.2.2.2.2.2.2.2.2.2.2.2.2, putL q 4), (.slice i.2.2.2.2.2.2.2.2.2.2.2.1 2 i.2.2.2.2.2.2.2.2.2.2.2.2.1, putL a 2), (.slice i.2.2.2.2.2.2.2.2.2.1 2 i.2.2.2.2.2.2.2.2.2.2.1, putL g.r 2), (.slice i.2.2.2.2.2.2.2.1 2 i.2.2.2.2.2.2.2.2.1, putL g.a 2), (.slice i.2.2.2.2.2.1 1 i.2.2.2.2.2.2.1, putL g.y 1), (.slice i.2.2.2.1 1 i.2.2.2.2.1, putL g.s 1), (.slice i.2.1 2 i.2.2.1, putL g.b 2)]) ∧ Hid (W.heap.size ≤ i.1 ∧ x.heap[i.1]? = some (.cells (u8s [82, 86, 84, 49]).toArray 5 (0, 0)))) ?_ ?_
  · rintro ⟨L, a1, n1, a2, n2, a3, n3, a4, n4, a5, n5, a6, n6, a7, n7⟩ x ⟨K, S, Z⟩
    dsimp only
    try dsimp only at S Z
    as_aux_lemma =>
      rw [wpPlan_one]
      simp only [nth_zero, nth_succ]
      obtain ⟨x1, CV, hbl, hsz, hcs⟩ := conv_mark x L (u8s [82, 86, 84, 49]).toArray 4 4 Z.out.2
      have K1 : Hid (Below W.heap.size W x1) := K.out.trans (hbl.mono Z.out.1)
      have S1 := Lib.hid (S.out.cells hsz hcs)
      have Z1 : Hid (Sl .u8 x1 (.slice (some ⟨L, 0, none⟩) 4 4) [82, 86, 84, 49]) := (sl_new (g := L) (xs := [82, 86, 84, 49]) Z.out.2 (by simp [maxLen])).cells hsz hcs
      clear hbl hsz hcs
      go_wp2_with fail
      refine planPost_mk ⟨⟨x1, K1.out⟩, rfl⟩ ?_
      exact T72 (L, a1, n1, a2, n2, a3, n3, a4, n4, a5, n5, a6, n6, a7, n7) x1 ⟨K1, S1, Z1⟩
  intro T71
  refine plan_have (ι := Nat × Option Addr × Nat × Option Addr × Nat × Option Addr × Nat × Option Addr × Nat × Option Addr × Nat × Option Addr × Nat) (.two 3 38 (.one 38 (.one 39 (.one 40 .leaf))) (.one 3 (.one 39 (.one 40 .leaf)))) (fun i => { tmps := #[.agg (supC gen g a q).toArray, .pointer (some ⟨B0, 0, none⟩), .pointer (some ⟨B1, 0, none⟩), .pointer (some ⟨B2, 0, none⟩), .pointer (some ⟨B0, 0, none⟩), .int .u32 gen, .agg ((zcs.set 0 (.int .u8 83)).set 1 (.int .u32 gen)).toArray, .pointer (some ⟨B2, 3, none⟩), .slice (some ⟨B2, 3, none⟩) 48 48, .slice (some ⟨i.1, 0, none⟩) 4 4, undef, .pointer (some ⟨B0, 1, none⟩), .pointer (some ⟨B0, 1, none⟩), .int .i64 g.b, .int .u64 g.b, .slice i.2.1 2 i.2.2.1, .pointer (some ⟨B0, 1, none⟩), .pointer (some ⟨B0, 2, none⟩), .int .i64 g.s, .int .u64 g.s, .slice i.2.2.2.1 1 i.2.2.2.2.1, .pointer (some ⟨B0, 1, none⟩), .pointer (some ⟨B0, 3, none⟩), .int .i64 g.y, .int .u64 g.y, .slice i.2.2.2.2.2.1 1 i.2.2.2.2.2.2.1, .pointer (some ⟨B0, 1, none⟩), .pointer (some ⟨B0, 4, none⟩), .int .i64 g.a, .int .u64 g.a, .slice i.2.2.2.2.2.2.2.1 2 i.2.2.2.2.2.2.2.2.1, .pointer (some ⟨B0, 1, none⟩), .pointer (some ⟨B0, 5, none⟩), .int .i64 g.r, .int .u64 g.r, .slice i.2.2.2.2.2.2.2.2.2.1 2 i.2.2.2.2.2.2.2.2.2.2.1, .pointer (some ⟨B0, 6, none⟩), .pointer (some ⟨B0, 6, none⟩), .int .i64 a, .int .u64 a, .slice i.2.2.2.2.2.2.2.2.2.2.2.1 2 i.2.2.2.2.2.2.2.2.2.2.2.2, .pointer (some ⟨B0, 6, none⟩), .pointer (some ⟨B0, 7, none⟩), .int .u32 q, .int .u64 q, undef, undef, undef, undef, undef], defers := [] }) (fun i x => Hid (Below W.heap.size W x) ∧ Hid (AllSl x [(.slice i.2.2.2.2.2.2.2.2.2.2.2.1 2 i.2.2.2.2.2.2.2.2.2.2.2.2, putL a 2), (.slice i.2.2.2.2.2.2.2.2.2.1 2 i.2.2.2.2.2.2.2.2.2.2.1, putL g.r 2), (.slice i.2.2.2.2.2.2.2.1 2 i.2.2.2.2.2.2.2.2.1, putL g.a 2), (.slice i.2.2.2.2.2.1 1 i.2.2.2.2.2.2.1, putL g.y 1), (.slice i.2.2.2.1 1 i.2.2.2.2.1, putL g.s 1), (.slice i.2.1 2 i.2.2.1, putL g.b 2)]) ∧ Hid (W.heap.size ≤ i.1 ∧ x.heap[i.1]? = some (.cells (u8s [82, 86, 84, 49]).toArray 5 (0, 0)))) ?_ ?_
  · rintro ⟨L, a1, n1, a2, n2, a3, n3, a4, n4, a5, n5, a6, n6⟩ x ⟨K, S, Z⟩
    dsimp only
    try dsimp only at S Z
    as_aux_lemma =>
      rw [wpPlan_two]
      refine ⟨?_, ?_⟩
      · skip
        simp only [nth_zero, nth_succ]
        obtain ⟨x1, CV, hbl, hsz, hcs⟩ := conv_mark x L (u8s [82, 86, 84, 49]).toArray 4 4 Z.out.2
        have K1 : Hid (Below W.heap.size W x1) := K.out.trans (hbl.mono Z.out.1)
        have S1 := Lib.hid (S.out.cells hsz hcs)
        have Z1 : Hid (Sl .u8 x1 (.slice (some ⟨L, 0, none⟩) 4 4) [82, 86, 84, 49]) := (sl_new (g := L) (xs := [82, 86, 84, 49]) Z.out.2 (by simp [maxLen])).cells hsz hcs
        clear hbl hsz hcs
        go_wp2_with fail
        refine planPost_mk ⟨⟨x1, K1.out⟩, rfl⟩ ?_
        exact T62 (L, a1, n1, a2, n2, a3, n3, a4, n4, a5, n5, a6, n6) x1 ⟨K1, S1, Z1⟩
      · skip
        simp only [nth_zero, nth_succ]
        go_wp2_with fail
        go_at_call 137
        refine (HP7.out _).mono ?_
        rintro e x1 ⟨a7, n7, rfl, hs, hb⟩
        have K1 : Hid (Below W.heap.size W x1) := K.out.trans (hb.mono K.out.size)
        have S1 := Lib.hid (S.out.put hb hs)
        have Z1 : Hid (W.heap.size ≤ L ∧ x1.heap[L]? = some (.cells (u8s [82, 86, 84, 49]).toArray 5 (0, 0))) := ⟨Z.out.1, (hb.block L (Array.getElem?_eq_some_iff.1 Z.out.2).1).trans Z.out.2⟩
        clear hs hb
        go_wp2_with fail
        refine planPost_mk ⟨⟨x1, K1.out⟩, rfl⟩ ?_
        exact T71 (L, a1, n1, a2, n2, a3, n3, a4, n4, a5, n5, a6, n6, a7, n7) x1 ⟨K1, S1, Z1⟩
  intro T61
  refine plan_have (ι := Nat × Option Addr × Nat × Option Addr × Nat × Option Addr × Nat × Option Addr × Nat × Option Addr × Nat) (.two 3 33 (.one 33 (.one 38 (.one 39 (.one 40 .leaf)))) (.two 3 38 (.one 38 (.one 39 (.one 40 .leaf))) (.one 3 (.one 39 (.one 40 .leaf))))) (fun i => { tmps := #[.agg (supC gen g a q).toArray, .pointer (some ⟨B0, 0, none⟩), .pointer (some ⟨B1, 0, none⟩), .pointer (some ⟨B2, 0, none⟩), .pointer (some ⟨B0, 0, none⟩), .int .u32 gen, .agg ((zcs.set 0 (.int .u8 83)).set 1 (.int .u32 gen)).toArray, .pointer (some ⟨B2, 3, none⟩), .slice (some ⟨B2, 3, none⟩) 48 48, .slice (some ⟨i.1, 0, none⟩) 4 4, undef, .pointer (some ⟨B0, 1, none⟩), .pointer (some ⟨B0, 1, none⟩), .int .i64 g.b, .int .u64 g.b, .slice i.2.1 2 i.2.2.1, .pointer (some ⟨B0, 1, none⟩), .pointer (some ⟨B0, 2, none⟩), .int .i64 g.s, .int .u64 g.s, .slice i.2.2.2.1 1 i.2.2.2.2.1, .pointer (some ⟨B0, 1, none⟩), .pointer (some ⟨B0, 3, none⟩), .int .i64 g.y, .int .u64 g.y, .slice i.2.2.2.2.2.1 1 i.2.2.2.2.2.2.1, .pointer (some ⟨B0, 1, none⟩), .pointer (some ⟨B0, 4, none⟩), .int .i64 g.a, .int .u64 g.a, .slice i.2.2.2.2.2.2.2.1 2 i.2.2.2.2.2.2.2.2.1, .pointer (some ⟨B0, 1, none⟩), .pointer (some ⟨B0, 5, none⟩), .int .i64 g.r, .int .u64 g.r, .slice i.2.2.2.2.2.2.2.2.2.1 2 i.2.2.2.2.2.2.2.2.2.2, .pointer (some ⟨B0, 6, none⟩), .pointer (some ⟨B0, 6, none⟩), .int .i64 a, .int .u64 a, undef, .pointer (some ⟨B0, 6, none⟩), .pointer (some ⟨B0, 7, none⟩), .int .u32 q, .int .u64 q, undef, undef, undef, undef, undef], defers := [] }) (fun i x => Hid (Below W.heap.size W x) ∧ Hid (AllSl x [(.slice i.2.2.2.2.2.2.2.2.2.1 2 i.2.2.2.2.2.2.2.2.2.2, putL g.r 2), (.slice i.2.2.2.2.2.2.2.1 2 i.2.2.2.2.2.2.2.2.1, putL g.a 2), (.slice i.2.2.2.2.2.1 1 i.2.2.2.2.2.2.1, putL g.y 1), (.slice i.2.2.2.1 1 i.2.2.2.2.1, putL g.s 1), (.slice i.2.1 2 i.2.2.1, putL g.b 2)]) ∧ Hid (W.heap.size ≤ i.1 ∧ x.heap[i.1]? = some (.cells (u8s [82, 86, 84, 49]).toArray 5 (0, 0)))) ?_ ?_
  · rintro ⟨L, a1, n1, a2, n2, a3, n3, a4, n4, a5, n5⟩ x ⟨K, S, Z⟩
    dsimp only
    try dsimp only at S Z
    as_aux_lemma =>
      rw [wpPlan_two]
      refine ⟨?_, ?_⟩
      · skip
        simp only [nth_zero, nth_succ]
        obtain ⟨x1, CV, hbl, hsz, hcs⟩ := conv_mark x L (u8s [82, 86, 84, 49]).toArray 4 4 Z.out.2
        have K1 : Hid (Below W.heap.size W x1) := K.out.trans (hbl.mono Z.out.1)
        have S1 := Lib.hid (S.out.cells hsz hcs)
        have Z1 : Hid (Sl .u8 x1 (.slice (some ⟨L, 0, none⟩) 4 4) [82, 86, 84, 49]) := (sl_new (g := L) (xs := [82, 86, 84, 49]) Z.out.2 (by simp [maxLen])).cells hsz hcs
        clear hbl hsz hcs
        go_wp2_with fail
        refine planPost_mk ⟨⟨x1, K1.out⟩, rfl⟩ ?_
        exact T52 (L, a1, n1, a2, n2, a3, n3, a4, n4, a5, n5) x1 ⟨K1, S1, Z1⟩
      · skip
        simp only [nth_zero, nth_succ]
        go_wp2_with fail
        go_at_call 137
        refine (HP6.out _).mono ?_
        rintro e x1 ⟨a6, n6, rfl, hs, hb⟩
        have K1 : Hid (Below W.heap.size W x1) := K.out.trans (hb.mono K.out.size)
        have S1 := Lib.hid (S.out.put hb hs)
        have Z1 : Hid (W.heap.size ≤ L ∧ x1.heap[L]? = some (.cells (u8s [82, 86, 84, 49]).toArray 5 (0, 0))) := ⟨Z.out.1, (hb.block L (Array.getElem?_eq_some_iff.1 Z.out.2).1).trans Z.out.2⟩
        clear hs hb
        go_wp2_with fail
        refine planPost_mk ⟨⟨x1, K1.out⟩, rfl⟩ ?_
        exact T61 (L, a1, n1, a2, n2, a3, n3, a4, n4, a5, n5, a6, n6) x1 ⟨K1, S1, Z1⟩
  intro T51
  refine plan_have (ι := Nat × Option Addr × Nat × Option Addr × Nat × Option Addr × Nat × Option Addr × Nat) (.two 3 28 (.one 28 (.one 33 (.one 38 (.one 39 (.one 40 .leaf))))) (.two 3 33 (.one 33 (.one 38 (.one 39 (.one 40 .leaf)))) (.two 3 38 (.one 38 (.one 39 (.one 40 .leaf))) (.one 3 (.one 39 (.one 40 .leaf)))))) (fun i => { tmps := #[.agg (supC gen g a q).toArray, .pointer (some ⟨B0, 0, none⟩), .pointer (some ⟨B1, 0, none⟩), .pointer (some ⟨B2, 0, none⟩), .pointer (some ⟨B0, 0, none⟩), .int .u32 gen, .agg ((zcs.set 0 (.int .u8 83)).set 1 (.int .u32 gen)).toArray, .pointer (some ⟨B2, 3, none⟩), .slice (some ⟨B2, 3, none⟩) 48 48, .slice (some ⟨i.1, 0, none⟩) 4 4, undef, .pointer (some ⟨B0, 1, none⟩), .pointer (some ⟨B0, 1, none⟩), .int .i64 g.b, .int .u64 g.b, .slice i.2.1 2 i.2.2.1, .pointer (some ⟨B0, 1, none⟩), .pointer (some ⟨B0, 2, none⟩), .int .i64 g.s, .int .u64 g.s, .slice i.2.2.2.1 1 i.2.2.2.2.1, .pointer (some ⟨B0, 1, none⟩), .pointer (some ⟨B0, 3, none⟩), .int .i64 g.y, .int .u64 g.y, .slice i.2.2.2.2.2.1 1 i.2.2.2.2.2.2.1, .pointer (some ⟨B0, 1, none⟩), .pointer (some ⟨B0, 4, none⟩), .int .i64 g.a, .int .u64 g.a, .slice i.2.2.2.2.2.2.2.1 2 i.2.2.2.2.2.2.2.2, .pointer (some ⟨B0, 1, none⟩), .pointer (some ⟨B0, 5, none⟩), .int .i64 g.r, .int .u64 g.r, undef, .pointer (some ⟨B0, 6, none⟩), .pointer (some ⟨B0, 6, none⟩), .int .i64 a, .int .u64 a, undef, .pointer (some ⟨B0, 6, none⟩), .pointer (some ⟨B0, 7, none⟩), .int .u32 q, .int .u64 q, undef, undef, undef, undef, undef], defers := [] }) (fun i x => Hid (Below W.heap.size W x) ∧ Hid (AllSl x [(.slice i.2.2.2.2.2.2.2.1 2 i.2.2.2.2.2.2.2.2, putL g.a 2), (.slice i.2.2.2.2.2.1 1 i.2.2.2.2.2.2.1, putL g.y 1), (.slice i.2.2.2.1 1 i.2.2.2.2.1, putL g.s 1), (.slice i.2.1 2 i.2.2.1, putL g.b 2)]) ∧ Hid (W.heap.size ≤ i.1 ∧ x.heap[i.1]? = some (.cells (u8s [82, 86, 84, 49]).toArray 5 (0, 0)))) ?_ ?_
  · rintro ⟨L, a1, n1, a2, n2, a3, n3, a4, n4⟩ x ⟨K, S, Z⟩
    dsimp only
    try dsimp only at S Z
    as_aux_lemma =>
      rw [wpPlan_two]
      refine ⟨?_, ?_⟩
      · skip
        simp only [nth_zero, nth_succ]
        obtain ⟨x1, CV, hbl, hsz, hcs⟩ := conv_mark x L (u8s [82, 86, 84, 49]).toArray 4 4 Z.out.2
        have K1 : Hid (Below W.heap.size W x1) := K.out.trans (hbl.mono Z.out.1)
        have S1 := Lib.hid (S.out.cells hsz hcs)
        have Z1 : Hid (Sl .u8 x1 (.slice (some ⟨L, 0, none⟩) 4 4) [82, 86, 84, 49]) := (sl_new (g := L) (xs := [82, 86, 84, 49]) Z.out.2 (by simp [maxLen])).cells hsz hcs
        clear hbl hsz hcs
        go_wp2_with fail
        refine planPost_mk ⟨⟨x1, K1.out⟩, rfl⟩ ?_
        exact T42 (L, a1, n1, a2, n2, a3, n3, a4, n4) x1 ⟨K1, S1, Z1⟩
      · skip
        simp only [nth_zero, nth_succ]
        go_wp2_with fail
        go_at_call 137
        refine (HP5.out _).mono ?_
        rintro e x1 ⟨a5, n5, rfl, hs, hb⟩
        have K1 : Hid (Below W.heap.size W x1) := K.out.trans (hb.mono K.out.size)
        have S1 := Lib.hid (S.out.put hb hs)
        have Z1 : Hid (W.heap.size ≤ L ∧ x1.heap[L]? = some (.cells (u8s [82, 86, 84, 49]).toArray 5 (0, 0))) := ⟨Z.out.1, (hb.block L (Array.getElem?_eq_some_iff.1 Z.out.2).1).trans Z.out.2⟩
        clear hs hb
        go_wp2_with fail
        refine planPost_mk ⟨⟨x1, K1.out⟩, rfl⟩ ?_
        exact T51 (L, a1, n1, a2, n2, a3, n3, a4, n4, a5, n5) x1 ⟨K1, S1, Z1⟩
  intro T41
  refine plan_have (ι := Nat × Option Addr × Nat × Option Addr × Nat × Option Addr × Nat) (.two 3 23 (.one 23 (.one 28 (.one 33 (.one 38 (.one 39 (.one 40 .leaf)))))) (.two 3 28 (.one 28 (.one 33 (.one 38 (.one 39 (.one 40 .leaf))))) (.two 3 33 (.one 33 (.one 38 (.one 39 (.one 40 .leaf)))) (.two 3 38 (.one 38 (.one 39 (.one 40 .leaf))) (.one 3 (.one 39 (.one 40 .leaf))))))) (fun i => { tmps := #[.agg (supC gen g a q).toArray, .pointer (some ⟨B0, 0, none⟩), .pointer (some ⟨B1, 0, none⟩), .pointer (some ⟨B2, 0, none⟩), .pointer (some ⟨B0, 0, none⟩), .int .u32 gen, .agg ((zcs.set 0 (.int .u8 83)).set 1 (.int .u32 gen)).toArray, .pointer (some ⟨B2, 3, none⟩), .slice (some ⟨B2, 3, none⟩) 48 48, .slice (some ⟨i.1, 0, none⟩) 4 4, undef, .pointer (some ⟨B0, 1, none⟩), .pointer (some ⟨B0, 1, none⟩), .int .i64 g.b, .int .u64 g.b, .slice i.2.1 2 i.2.2.1, .pointer (some ⟨B0, 1, none⟩), .pointer (some ⟨B0, 2, none⟩), .int .i64 g.s, .int .u64 g.s, .slice i.2.2.2.1 1 i.2.2.2.2.1, .pointer (some ⟨B0, 1, none⟩), .pointer (some ⟨B0, 3, none⟩), .int .i64 g.y, .int .u64 g.y, .slice i.2.2.2.2.2.1 1 i.2.2.2.2.2.2, .pointer (some ⟨B0, 1, none⟩), .pointer (some ⟨B0, 4, none⟩), .int .i64 g.a, .int .u64 g.a, undef, .pointer (some ⟨B0, 1, none⟩), .pointer (some ⟨B0, 5, none⟩), .int .i64 g.r, .int .u64 g.r, undef, .pointer (some ⟨B0, 6, none⟩), .pointer (some ⟨B0, 6, none⟩), .int .i64 a, .int .u64 a, undef, .pointer (some ⟨B0, 6, none⟩), .pointer (some ⟨B0, 7, none⟩), .int .u32 q, .int .u64 q, undef, undef, undef, undef, undef], defers := [] }) (fun i x => Hid (Below W.heap.size W x) ∧ Hid (AllSl x [(.slice i.2.2.2.2.2.1 1 i.2.2.2.2.2.2, putL g.y 1), (.slice i.2.2.2.1 1 i.2.2.2.2.1, putL g.s 1), (.slice i.2.1 2 i.2.2.1, putL g.b 2)]) ∧ Hid (W.heap.size ≤ i.1 ∧ x.heap[i.1]? = some (.cells (u8s [82, 86, 84, 49]).toArray 5 (0, 0)))) ?_ ?_
  · rintro ⟨L, a1, n1, a2, n2, a3, n3⟩ x ⟨K, S, Z⟩
    dsimp only
    try dsimp only at S Z
    as_aux_lemma =>
      rw [wpPlan_two]
      refine ⟨?_, ?_⟩
      · skip
        simp only [nth_zero, nth_succ]
        obtain ⟨x1, CV, hbl, hsz, hcs⟩ := conv_mark x L (u8s [82, 86, 84, 49]).toArray 4 4 Z.out.2
        have K1 : Hid (Below W.heap.size W x1) := K.out.trans (hbl.mono Z.out.1)
        have S1 := Lib.hid (S.out.cells hsz hcs)
        have Z1 : Hid (Sl .u8 x1 (.slice (some ⟨L, 0, none⟩) 4 4) [82, 86, 84, 49]) := (sl_new (g := L) (xs := [82, 86, 84, 49]) Z.out.2 (by simp [maxLen])).cells hsz hcs
        clear hbl hsz hcs
        go_wp2_with fail
        refine planPost_mk ⟨⟨x1, K1.out⟩, rfl⟩ ?_
        exact T32 (L, a1, n1, a2, n2, a3, n3) x1 ⟨K1, S1, Z1⟩
      · skip
        simp only [nth_zero, nth_succ]
        go_wp2_with fail
        go_at_call 137
        refine (HP4.out _).mono ?_
        rintro e x1 ⟨a4, n4, rfl, hs, hb⟩
        have K1 : Hid (Below W.heap.size W x1) := K.out.trans (hb.mono K.out.size)
        have S1 := Lib.hid (S.out.put hb hs)
        have Z1 : Hid (W.heap.size ≤ L ∧ x1.heap[L]? = some (.cells (u8s [82, 86, 84, 49]).toArray 5 (0, 0))) := ⟨Z.out.1, (hb.block L (Array.getElem?_eq_some_iff.1 Z.out.2).1).trans Z.out.2⟩
        clear hs hb
        go_wp2_with fail
        refine planPost_mk ⟨⟨x1, K1.out⟩, rfl⟩ ?_
        exact T41 (L, a1, n1, a2, n2, a3, n3, a4, n4) x1 ⟨K1, S1, Z1⟩
  intro T31
  refine plan_have (ι := Nat × Option Addr × Nat × Option Addr × Nat) (.two 3 18 (.one 18 (.one 23 (.one 28 (.one 33 (.one 38 (.one 39 (.one 40 .leaf))))))) (.two 3 23 (.one 23 (.one 28 (.one 33 (.one 38 (.one 39 (.one 40 .leaf)))))) (.two 3 28 (.one 28 (.one 33 (.one 38 (.one 39 (.one 40 .leaf))))) (.two 3 33 (.one 33 (.one 38 (.one 39 (.one 40 .leaf)))) (.two 3 38 (.one 38 (.one 39 (.one 40 .leaf))) (.one 3 (.one 39 (.one 40 .leaf)))))))) (fun i => { tmps := #[.agg (supC gen g a q).toArray, .pointer (some ⟨B0, 0, none⟩), .pointer (some ⟨B1, 0, none⟩), .pointer (some ⟨B2, 0, none⟩), .pointer (some ⟨B0, 0, none⟩), .int .u32 gen, .agg ((zcs.set 0 (.int .u8 83)).set 1 (.int .u32 gen)).toArray, .pointer (some ⟨B2, 3, none⟩), .slice (some ⟨B2, 3, none⟩) 48 48, .slice (some ⟨i.1, 0, none⟩) 4 4, undef, .pointer (some ⟨B0, 1, none⟩), .pointer (some ⟨B0, 1, none⟩), .int .i64 g.b, .int .u64 g.b, .slice i.2.1 2 i.2.2.1, .pointer (some ⟨B0, 1, none⟩), .pointer (some ⟨B0, 2, none⟩), .int .i64 g.s, .int .u64 g.s, .slice i.2.2.2.1 1 i.2.2.2.2, .pointer (some ⟨B0, 1, none⟩), .pointer (some ⟨B0, 3, none⟩), .int .i64 g.y, .int .u64 g.y, undef, .pointer (some ⟨B0, 1, none⟩), .pointer (some ⟨B0, 4, none⟩), .int .i64 g.a, .int .u64 g.a, undef, .pointer (some ⟨B0, 1, none⟩), .pointer (some ⟨B0, 5, none⟩), .int .i64 g.r, .int .u64 g.r, undef, .pointer (some ⟨B0, 6, none⟩), .pointer (some ⟨B0, 6, none⟩), .int .i64 a, .int .u64 a, undef, .pointer (some ⟨B0, 6, none⟩), .pointer (some ⟨B0, 7, none⟩), .int .u32 q, .int .u64 q, undef, undef, undef, undef, undef], defers := [] }) (fun i x => Hid (Below W.heap.size W x) ∧ Hid (AllSl x [(.slice i.2.2.2.1 1 i.2.2.2.2, putL g.s 1), (.slice i.2.1 2 i.2.2.1, putL g.b 2)]) ∧ Hid (W.heap.size ≤ i.1 ∧ x.heap[i.1]? = some (.cells (u8s [82, 86, 84, 49]).toArray 5 (0, 0)))) ?_ ?_
  · rintro ⟨L, a1, n1, a2, n2⟩ x ⟨K, S, Z⟩
    dsimp only
    try dsimp only at S Z
    as_aux_lemma =>
      rw [wpPlan_two]
      refine ⟨?_, ?_⟩
      · skip
        simp only [nth_zero, nth_succ]
        obtain ⟨x1, CV, hbl, hsz, hcs⟩ := conv_mark x L (u8s [82, 86, 84, 49]).toArray 4 4 Z.out.2
        have K1 : Hid (Below W.heap.size W x1) := K.out.trans (hbl.mono Z.out.1)
        have S1 := Lib.hid (S.out.cells hsz hcs)
        have Z1 : Hid (Sl .u8 x1 (.slice (some ⟨L, 0, none⟩) 4 4) [82, 86, 84, 49]) := (sl_new (g := L) (xs := [82, 86, 84, 49]) Z.out.2 (by simp [maxLen])).cells hsz hcs
        clear hbl hsz hcs
        go_wp2_with fail
        refine planPost_mk ⟨⟨x1, K1.out⟩, rfl⟩ ?_
        exact T22 (L, a1, n1, a2, n2) x1 ⟨K1, S1, Z1⟩
      · skip
        simp only [nth_zero, nth_succ]
        go_wp2_with fail
        go_at_call 137
        refine (HP3.out _).mono ?_
        rintro e x1 ⟨a3, n3, rfl, hs, hb⟩
        have K1 : Hid (Below W.heap.size W x1) := K.out.trans (hb.mono K.out.size)
        have S1 := Lib.hid (S.out.put hb hs)
        have Z1 : Hid (W.heap.size ≤ L ∧ x1.heap[L]? = some (.cells (u8s [82, 86, 84, 49]).toArray 5 (0, 0))) := ⟨Z.out.1, (hb.block L (Array.getElem?_eq_some_iff.1 Z.out.2).1).trans Z.out.2⟩
        clear hs hb
        go_wp2_with fail
        refine planPost_mk ⟨⟨x1, K1.out⟩, rfl⟩ ?_
        exact T31 (L, a1, n1, a2, n2, a3, n3) x1 ⟨K1, S1, Z1⟩
  intro T21
  refine plan_have (ι := Nat × Option Addr × Nat) (.two 3 13 (.one 13 (.one 18 (.one 23 (.one 28 (.one 33 (.one 38 (.one 39 (.one 40 .leaf)))))))) (.two 3 18 (.one 18 (.one 23 (.one 28 (.one 33 (.one 38 (.one 39 (.one 40 .leaf))))))) (.two 3 23 (.one 23 (.one 28 (.one 33 (.one 38 (.one 39 (.one 40 .leaf)))))) (.two 3 28 (.one 28 (.one 33 (.one 38 (.one 39 (.one 40 .leaf))))) (.two 3 33 (.one 33 (.one 38 (.one 39 (.one 40 .leaf)))) (.two 3 38 (.one 38 (.one 39 (.one 40 .leaf))) (.one 3 (.one 39 (.one 40 .leaf))))))))) (fun i => { tmps := #[.agg (supC gen g a q).toArray, .pointer (some ⟨B0, 0, none⟩), .pointer (some ⟨B1, 0, none⟩), .pointer (some ⟨B2, 0, none⟩), .pointer (some ⟨B0, 0, none⟩), .int .u32 gen, .agg ((zcs.set 0 (.int .u8 83)).set 1 (.int .u32 gen)).toArray, .pointer (some ⟨B2, 3, none⟩), .slice (some ⟨B2, 3, none⟩) 48 48, .slice (some ⟨i.1, 0, none⟩) 4 4, undef, .pointer (some ⟨B0, 1, none⟩), .pointer (some ⟨B0, 1, none⟩), .int .i64 g.b, .int .u64 g.b, .slice i.2.1 2 i.2.2, .pointer (some ⟨B0, 1, none⟩), .pointer (some ⟨B0, 2, none⟩), .int .i64 g.s, .int .u64 g.s, undef, .pointer (some ⟨B0, 1, none⟩), .pointer (some ⟨B0, 3, none⟩), .int .i64 g.y, .int .u64 g.y, undef, .pointer (some ⟨B0, 1, none⟩), .pointer (some ⟨B0, 4, none⟩), .int .i64 g.a, .int .u64 g.a, undef, .pointer (some ⟨B0, 1, none⟩), .pointer (some ⟨B0, 5, none⟩), .int .i64 g.r, .int .u64 g.r, undef, .pointer (some ⟨B0, 6, none⟩), .pointer (some ⟨B0, 6, none⟩), .int .i64 a, .int .u64 a, undef, .pointer (some ⟨B0, 6, none⟩), .pointer (some ⟨B0, 7, none⟩), .int .u32 q, .int .u64 q, undef, undef, undef, undef, undef], defers := [] }) (fun i x => Hid (Below W.heap.size W x) ∧ Hid (AllSl x [(.slice i.2.1 2 i.2.2, putL g.b 2)]) ∧ Hid (W.heap.size ≤ i.1 ∧ x.heap[i.1]? = some (.cells (u8s [82, 86, 84, 49]).toArray 5 (0, 0)))) ?_ ?_
  · rintro ⟨L, a1, n1⟩ x ⟨K, S, Z⟩
    dsimp only
    try dsimp only at S Z
    as_aux_lemma =>
      rw [wpPlan_two]
      refine ⟨?_, ?_⟩
      · skip
        simp only [nth_zero, nth_succ]
        obtain ⟨x1, CV, hbl, hsz, hcs⟩ := conv_mark x L (u8s [82, 86, 84, 49]).toArray 4 4 Z.out.2
        have K1 : Hid (Below W.heap.size W x1) := K.out.trans (hbl.mono Z.out.1)
        have S1 := Lib.hid (S.out.cells hsz hcs)
        have Z1 : Hid (Sl .u8 x1 (.slice (some ⟨L, 0, none⟩) 4 4) [82, 86, 84, 49]) := (sl_new (g := L) (xs := [82, 86, 84, 49]) Z.out.2 (by simp [maxLen])).cells hsz hcs
        clear hbl hsz hcs
        go_wp2_with fail
        refine planPost_mk ⟨⟨x1, K1.out⟩, rfl⟩ ?_
        exact T12 (L, a1, n1) x1 ⟨K1, S1, Z1⟩
      · skip
        simp only [nth_zero, nth_succ]
        go_wp2_with fail
        go_at_call 137
        refine (HP2.out _).mono ?_
        rintro e x1 ⟨a2, n2, rfl, hs, hb⟩
        have K1 : Hid (Below W.heap.size W x1) := K.out.trans (hb.mono K.out.size)
        have S1 := Lib.hid (S.out.put hb hs)
        have Z1 : Hid (W.heap.size ≤ L ∧ x1.heap[L]? = some (.cells (u8s [82, 86, 84, 49]).toArray 5 (0, 0))) := ⟨Z.out.1, (hb.block L (Array.getElem?_eq_some_iff.1 Z.out.2).1).trans Z.out.2⟩
        clear hs hb
        go_wp2_with fail
        refine planPost_mk ⟨⟨x1, K1.out⟩, rfl⟩ ?_
        exact T21 (L, a1, n1, a2, n2) x1 ⟨K1, S1, Z1⟩
  intro T11
  refine plan_have (ι := Nat) (.two 3 8 (.one 8 (.one 13 (.one 18 (.one 23 (.one 28 (.one 33 (.one 38 (.one 39 (.one 40 .leaf))))))))) (.two 3 13 (.one 13 (.one 18 (.one 23 (.one 28 (.one 33 (.one 38 (.one 39 (.one 40 .leaf)))))))) (.two 3 18 (.one 18 (.one 23 (.one 28 (.one 33 (.one 38 (.one 39 (.one 40 .leaf))))))) (.two 3 23 (.one 23 (.one 28 (.one 33 (.one 38 (.one 39 (.one 40 .leaf)))))) (.two 3 28 (.one 28 (.one 33 (.one 38 (.one 39 (.one 40 .leaf))))) (.two 3 33 (.one 33 (.one 38 (.one 39 (.one 40 .leaf)))) (.two 3 38 (.one 38 (.one 39 (.one 40 .leaf))) (.one 3 (.one 39 (.one 40 .leaf)))))))))) (fun i => { tmps := #[.agg (supC gen g a q).toArray, .pointer (some ⟨B0, 0, none⟩), .pointer (some ⟨B1, 0, none⟩), .pointer (some ⟨B2, 0, none⟩), .pointer (some ⟨B0, 0, none⟩), .int .u32 gen, .agg ((zcs.set 0 (.int .u8 83)).set 1 (.int .u32 gen)).toArray, .pointer (some ⟨B2, 3, none⟩), .slice (some ⟨B2, 3, none⟩) 48 48, .slice (some ⟨i, 0, none⟩) 4 4, undef, .pointer (some ⟨B0, 1, none⟩), .pointer (some ⟨B0, 1, none⟩), .int .i64 g.b, .int .u64 g.b, undef, .pointer (some ⟨B0, 1, none⟩), .pointer (some ⟨B0, 2, none⟩), .int .i64 g.s, .int .u64 g.s, undef, .pointer (some ⟨B0, 1, none⟩), .pointer (some ⟨B0, 3, none⟩), .int .i64 g.y, .int .u64 g.y, undef, .pointer (some ⟨B0, 1, none⟩), .pointer (some ⟨B0, 4, none⟩), .int .i64 g.a, .int .u64 g.a, undef, .pointer (some ⟨B0, 1, none⟩), .pointer (some ⟨B0, 5, none⟩), .int .i64 g.r, .int .u64 g.r, undef, .pointer (some ⟨B0, 6, none⟩), .pointer (some ⟨B0, 6, none⟩), .int .i64 a, .int .u64 a, undef, .pointer (some ⟨B0, 6, none⟩), .pointer (some ⟨B0, 7, none⟩), .int .u32 q, .int .u64 q, undef, undef, undef, undef, undef], defers := [] }) (fun i x => Hid (Below W.heap.size W x) ∧ Hid (AllSl x []) ∧ Hid (W.heap.size ≤ i ∧ x.heap[i]? = some (.cells (u8s [82, 86, 84, 49]).toArray 5 (0, 0)))) ?_ ?_
  · rintro L x ⟨K, S, Z⟩
    dsimp only
    try dsimp only at S Z
    as_aux_lemma =>
      rw [wpPlan_two]
      refine ⟨?_, ?_⟩
      · skip
        simp only [nth_zero, nth_succ]
        obtain ⟨x1, CV, hbl, hsz, hcs⟩ := conv_mark x L (u8s [82, 86, 84, 49]).toArray 4 4 Z.out.2
        have K1 : Hid (Below W.heap.size W x1) := K.out.trans (hbl.mono Z.out.1)
        have S1 := Lib.hid (S.out.cells hsz hcs)
        have Z1 : Hid (Sl .u8 x1 (.slice (some ⟨L, 0, none⟩) 4 4) [82, 86, 84, 49]) := (sl_new (g := L) (xs := [82, 86, 84, 49]) Z.out.2 (by simp [maxLen])).cells hsz hcs
        clear hbl hsz hcs
        go_wp2_with fail
        refine planPost_mk ⟨⟨x1, K1.out⟩, rfl⟩ ?_
        exact T02 L x1 ⟨K1, S1, Z1⟩
      · skip
        simp only [nth_zero, nth_succ]
        go_wp2_with fail
        go_at_call 137
        refine (HP1.out _).mono ?_
        rintro e x1 ⟨a1, n1, rfl, hs, hb⟩
        have K1 : Hid (Below W.heap.size W x1) := K.out.trans (hb.mono K.out.size)
        have S1 := Lib.hid (S.out.put hb hs)
        have Z1 : Hid (W.heap.size ≤ L ∧ x1.heap[L]? = some (.cells (u8s [82, 86, 84, 49]).toArray 5 (0, 0))) := ⟨Z.out.1, (hb.block L (Array.getElem?_eq_some_iff.1 Z.out.2).1).trans Z.out.2⟩
        clear hs hb
        go_wp2_with fail
        refine planPost_mk ⟨⟨x1, K1.out⟩, rfl⟩ ?_
        exact T11 (L, a1, n1) x1 ⟨K1, S1, Z1⟩
  intro T01
  refine plan_have (ι := Option Addr × Nat × Option Addr × Nat × Option Addr × Nat × Option Addr × Nat × Option Addr × Nat × Option Addr × Nat × Option Addr × Nat) (.one 2 (.one 3 (.one 39 (.one 40 .leaf)))) (fun i => { tmps := #[.agg (supC gen g a q).toArray, .pointer (some ⟨B0, 0, none⟩), .pointer (some ⟨B1, 0, none⟩), .pointer (some ⟨B2, 0, none⟩), .pointer (some ⟨B0, 0, none⟩), .int .u32 gen, .agg ((zcs.set 0 (.int .u8 83)).set 1 (.int .u32 gen)).toArray, .pointer (some ⟨B2, 3, none⟩), .slice (some ⟨B2, 3, none⟩) 48 48, undef, undef, .pointer (some ⟨B0, 1, none⟩), .pointer (some ⟨B0, 1, none⟩), .int .i64 g.b, .int .u64 g.b, .slice i.1 2 i.2.1, .pointer (some ⟨B0, 1, none⟩), .pointer (some ⟨B0, 2, none⟩), .int .i64 g.s, .int .u64 g.s, .slice i.2.2.1 1 i.2.2.2.1, .pointer (some ⟨B0, 1, none⟩), .pointer (some ⟨B0, 3, none⟩), .int .i64 g.y, .int .u64 g.y, .slice i.2.2.2.2.1 1 i.2.2.2.2.2.1, .pointer (some ⟨B0, 1, none⟩), .pointer (some ⟨B0, 4, none⟩), .int .i64 g.a, .int .u64 g.a, .slice i.2.2.2.2.2.2.1 2 i.2.2.2.2.2.2.2.1, .pointer (some ⟨B0, 1, none⟩), .pointer (some ⟨B0, 5, none⟩), .int .i64 g.r, .int .u64 g.r, .slice i.2.2.2.2.2.2.2.2.1 2 i.2.2.2.2.2.2.2.2.2.1, .pointer (some ⟨B0, 6, none⟩), .pointer (some ⟨B0, 6, none⟩), .int .i64 a, .int .u64 a, .slice i.2.2.2.2.2.2.2.2.2.2.1 2 i.2.2.2.2.2.2.2.2.2.2.2.1, .pointer (some ⟨B0, 6, none⟩), .pointer (some ⟨B0, 7, none⟩), .int .u32 q, .int .u64 q, .slice i.2.2.2.2.2.2.2.2.2.2.2.2.1 4 i.2.2.2.2.2.2.2.2.2.2.2.2.2, undef, undef, undef, undef], defers := [] }) (fun i x => Hid (Below W.heap.size W x) ∧ Hid (AllSl x [(.slice i.2.2.2.2.2.2.2.2.2.2.2.2.1 4 i.2.2.2.2.2.2.2.2.2.2.2.2.2, putL q 4), (.slice i.2.2.2.2.2.2.2.2.2.2.1 2 i.2.2.2.2.2.2.2.2.2.2.2.1, putL a 2), (.slice i.2.2.2.2.2.2.2.2.1 2 i.2.2.2.2.2.2.2.2.2.1, putL g.r 2), (.slice i.2.2.2.2.2.2.1 2 i.2.2.2.2.2.2.2.1, putL g.a 2), (.slice i.2.2.2.2.1 1 i.2.2.2.2.2.1, putL g.y 1), (.slice i.2.2.1 1 i.2.2.2.1, putL g.s 1), (.slice i.1 2 i.2.1, putL g.b 2)])) ?_ ?_
  · rintro ⟨a1, n1, a2, n2, a3, n3, a4, n4, a5, n5, a6, n6, a7, n7⟩ x ⟨K, S⟩
    dsimp only
    try dsimp only at S Z
    as_aux_lemma =>
      rw [wpPlan_one]
      simp only [nth_zero, nth_succ]
      obtain ⟨x1, hx⟩ : ∃ y, x.alloc (.cells (u8s [82, 86, 84, 49]).toArray 5) = y := ⟨_, rfl⟩
      have SB : (Instr.buildSlice 37 4 #[(0, .int .u8 82), (1, .int .u8 86), (2, .int .u8 84), (3, .int .u8 49)]).run Tryz.prog x = .ok (.slice (some ⟨x.heap.size, 0, none⟩) 4 4) x1 := by rw [← hx]; exact build_lit x
      have hb : Below x.heap.size x x1 := by rw [← hx]; exact below_new x _
      have hs : x1.heap[x.heap.size]? = some (.cells (u8s [82, 86, 84, 49]).toArray 5 (0, 0)) := by rw [← hx]; exact heap_alloc_new x _
      have K1 : Hid (Below W.heap.size W x1) := K.out.trans (hb.mono K.out.size)
      obtain ⟨L, hL⟩ : ∃ L, x.heap.size = L := ⟨_, rfl⟩
      have hWL : W.heap.size ≤ L := by rw [← hL]; exact K.out.size
      rw [hL] at SB hs
      have S1 := Lib.hid (S.out.below hb)
      have Z1 : Hid (W.heap.size ≤ L ∧ x1.heap[L]? = some (.cells (u8s [82, 86, 84, 49]).toArray 5 (0, 0))) := ⟨hWL, hs⟩
      clear hs hb hx hL hWL
      refine wpList_build_run _ _ _ rfl rfl _ _ rfl SB ?_
      clear SB
      go_wp2_with fail
      refine planPost_mk ⟨⟨x1, K1.out⟩, rfl⟩ ?_
      exact T71 (L, a1, n1, a2, n2, a3, n3, a4, n4, a5, n5, a6, n6, a7, n7) x1 ⟨K1, S1, Z1⟩
  intro T70
  refine plan_have (ι := Option Addr × Nat × Option Addr × Nat × Option Addr × Nat × Option Addr × Nat × Option Addr × Nat × Option Addr × Nat) (.two 2 38 (.two 3 38 (.one 38 (.one 39 (.one 40 .leaf))) (.one 3 (.one 39 (.one 40 .leaf)))) (.one 2 (.one 3 (.one 39 (.one 40 .leaf))))) (fun i => { tmps := #[.agg (supC gen g a q).toArray, .pointer (some ⟨B0, 0, none⟩), .pointer (some ⟨B1, 0, none⟩), .pointer (some ⟨B2, 0, none⟩), .pointer (some ⟨B0, 0, none⟩), .int .u32 gen, .agg ((zcs.set 0 (.int .u8 83)).set 1 (.int .u32 gen)).toArray, .pointer (some ⟨B2, 3, none⟩), .slice (some ⟨B2, 3, none⟩) 48 48, undef, undef, .pointer (some ⟨B0, 1, none⟩), .pointer (some ⟨B0, 1, none⟩), .int .i64 g.b, .int .u64 g.b, .slice i.1 2 i.2.1, .pointer (some ⟨B0, 1, none⟩), .pointer (some ⟨B0, 2, none⟩), .int .i64 g.s, .int .u64 g.s, .slice i.2.2.1 1 i.2.2.2.1, .pointer (some ⟨B0, 1, none⟩), .pointer (some ⟨B0, 3, none⟩), .int .i64 g.y, .int .u64 g.y, .slice i.2.2.2.2.1 1 i.2.2.2.2.2.1, .pointer (some ⟨B0, 1, none⟩), .pointer (some ⟨B0, 4, none⟩), .int .i64 g.a, .int .u64 g.a, .slice i.2.2.2.2.2.2.1 2 i.2.2.2.2.2.2.2.1, .pointer (some ⟨B0, 1, none⟩), .pointer (some ⟨B0, 5, none⟩), .int .i64 g.r, .int .u64 g.r, .slice i.2.2.2.2.2.2.2.2.1 2 i.2.2.2.2.2.2.2.2.2.1, .pointer (some ⟨B0, 6, none⟩), .pointer (some ⟨B0, 6, none⟩), .int .i64 a, .int .u64 a, .slice i.2.2.2.2.2.2.2.2.2.2.1 2 i.2.2.2.2.2.2.2.2.2.2.2, .pointer (some ⟨B0, 6, none⟩), .pointer (some ⟨B0, 7, none⟩), .int .u32 q, .int .u64 q, undef, undef, undef, undef, undef], defers := [] }) (fun i x => Hid (Below W.heap.size W x) ∧ Hid (AllSl x [(.slice i.2.2.2.2.2.2.2.2.2.2.1 2 i.2.2.2.2.2.2.2.2.2.2.2, putL a 2), (.slice i.2.2.2.2.2.2.2.2.1 2 i.2.2.2.2.2.2.2.2.2.1, putL g.r 2), (.slice i.2.2.2.2.2.2.1 2 i.2.2.2.2.2.2.2.1, putL g.a 2), (.slice i.2.2.2.2.1 1 i.2.2.2.2.2.1, putL g.y 1), (.slice i.2.2.1 1 i.2.2.2.1, putL g.s 1), (.slice i.1 2 i.2.1, putL g.b 2)])) ?_ ?_
  · rintro ⟨a1, n1, a2, n2, a3, n3, a4, n4, a5, n5, a6, n6⟩ x ⟨K, S⟩
    dsimp only
    try dsimp only at S Z
    as_aux_lemma =>
      rw [wpPlan_two]
      refine ⟨?_, ?_⟩
      · skip
        simp only [nth_zero, nth_succ]
        obtain ⟨x1, hx⟩ : ∃ y, x.alloc (.cells (u8s [82, 86, 84, 49]).toArray 5) = y := ⟨_, rfl⟩
        have SB : (Instr.buildSlice 37 4 #[(0, .int .u8 82), (1, .int .u8 86), (2, .int .u8 84), (3, .int .u8 49)]).run Tryz.prog x = .ok (.slice (some ⟨x.heap.size, 0, none⟩) 4 4) x1 := by rw [← hx]; exact build_lit x
        have hb : Below x.heap.size x x1 := by rw [← hx]; exact below_new x _
        have hs : x1.heap[x.heap.size]? = some (.cells (u8s [82, 86, 84, 49]).toArray 5 (0, 0)) := by rw [← hx]; exact heap_alloc_new x _
        have K1 : Hid (Below W.heap.size W x1) := K.out.trans (hb.mono K.out.size)
        obtain ⟨L, hL⟩ : ∃ L, x.heap.size = L := ⟨_, rfl⟩
        have hWL : W.heap.size ≤ L := by rw [← hL]; exact K.out.size
        rw [hL] at SB hs
        have S1 := Lib.hid (S.out.below hb)
        have Z1 : Hid (W.heap.size ≤ L ∧ x1.heap[L]? = some (.cells (u8s [82, 86, 84, 49]).toArray 5 (0, 0))) := ⟨hWL, hs⟩
        clear hs hb hx hL hWL
        refine wpList_build_run _ _ _ rfl rfl _ _ rfl SB ?_
        clear SB
        go_wp2_with fail
        refine planPost_mk ⟨⟨x1, K1.out⟩, rfl⟩ ?_
        exact T61 (L, a1, n1, a2, n2, a3, n3, a4, n4, a5, n5, a6, n6) x1 ⟨K1, S1, Z1⟩
      · skip
        simp only [nth_zero, nth_succ]
        go_wp2_with fail
        go_at_call 137
        refine (HP7.out _).mono ?_
        rintro e x1 ⟨a7, n7, rfl, hs, hb⟩
        have K1 : Hid (Below W.heap.size W x1) := K.out.trans (hb.mono K.out.size)
        have S1 := Lib.hid (S.out.put hb hs)
        clear hs hb
        go_wp2_with fail
        refine planPost_mk ⟨⟨x1, K1.out⟩, rfl⟩ ?_
        exact T70 (a1, n1, a2, n2, a3, n3, a4, n4, a5, n5, a6, n6, a7, n7) x1 ⟨K1, S1⟩
  intro T60
  refine plan_have (ι := Option Addr × Nat × Option Addr × Nat × Option Addr × Nat × Option Addr × Nat × Option Addr × Nat) (.two 2 33 (.two 3 33 (.one 33 (.one 38 (.one 39 (.one 40 .leaf)))) (.two 3 38 (.one 38 (.one 39 (.one 40 .leaf))) (.one 3 (.one 39 (.one 40 .leaf))))) (.two 2 38 (.two 3 38 (.one 38 (.one 39 (.one 40 .leaf))) (.one 3 (.one 39 (.one 40 .leaf)))) (.one 2 (.one 3 (.one 39 (.one 40 .leaf)))))) (fun i => { tmps := #[.agg (supC gen g a q).toArray, .pointer (some ⟨B0, 0, none⟩), .pointer (some ⟨B1, 0, none⟩), .pointer (some ⟨B2, 0, none⟩), .pointer (some ⟨B0, 0, none⟩), .int .u32 gen, .agg ((zcs.set 0 (.int .u8 83)).set 1 (.int .u32 gen)).toArray, .pointer (some ⟨B2, 3, none⟩), .slice (some ⟨B2, 3, none⟩) 48 48, undef, undef, .pointer (some ⟨B0, 1, none⟩), .pointer (some ⟨B0, 1, none⟩), .int .i64 g.b, .int .u64 g.b, .slice i.1 2 i.2.1, .pointer (some ⟨B0, 1, none⟩), .pointer (some ⟨B0, 2, none⟩), .int .i64 g.s, .int .u64 g.s, .slice i.2.2.1 1 i.2.2.2.1, .pointer (some ⟨B0, 1, none⟩), .pointer (some ⟨B0, 3, none⟩), .int .i64 g.y, .int .u64 g.y, .slice i.2.2.2.2.1 1 i.2.2.2.2.2.1, .pointer (some ⟨B0, 1, none⟩), .pointer (some ⟨B0, 4, none⟩), .int .i64 g.a, .int .u64 g.a, .slice i.2.2.2.2.2.2.1 2 i.2.2.2.2.2.2.2.1, .pointer (some ⟨B0, 1, none⟩), .pointer (some ⟨B0, 5, none⟩), .int .i64 g.r, .int .u64 g.r, .slice i.2.2.2.2.2.2.2.2.1 2 i.2.2.2.2.2.2.2.2.2, .pointer (some ⟨B0, 6, none⟩), .pointer (some ⟨B0, 6, none⟩), .int .i64 a, .int .u64 a, undef, .pointer (some ⟨B0, 6, none⟩), .pointer (some ⟨B0, 7, none⟩), .int .u32 q, .int .u64 q, undef, undef, undef, undef, undef], defers := [] }) (fun i x => Hid (Below W.heap.size W x) ∧ Hid (AllSl x [(.slice i.2.2.2.2.2.2.2.2.1 2 i.2.2.2.2.2.2.2.2.2, putL g.r 2), (.slice i.2.2.2.2.2.2.1 2 i.2.2.2.2.2.2.2.1, putL g.a 2), (.slice i.2.2.2.2.1 1 i.2.2.2.2.2.1, putL g.y 1), (.slice i.2.2.1 1 i.2.2.2.1, putL g.s 1), (.slice i.1 2 i.2.1, putL g.b 2)])) ?_ ?_
  · rintro ⟨a1, n1, a2, n2, a3, n3, a4, n4, a5, n5⟩ x ⟨K, S⟩
    dsimp only
    try dsimp only at S Z
    as_aux_lemma =>
      rw [wpPlan_two]
      refine ⟨?_, ?_⟩
      · skip
        simp only [nth_zero, nth_succ]
        obtain ⟨x1, hx⟩ : ∃ y, x.alloc (.cells (u8s [82, 86, 84, 49]).toArray 5) = y := ⟨_, rfl⟩
        have SB : (Instr.buildSlice 37 4 #[(0, .int .u8 82), (1, .int .u8 86), (2, .int .u8 84), (3, .int .u8 49)]).run Tryz.prog x = .ok (.slice (some ⟨x.heap.size, 0, none⟩) 4 4) x1 := by rw [← hx]; exact build_lit x
        have hb : Below x.heap.size x x1 := by rw [← hx]; exact below_new x _
        have hs : x1.heap[x.heap.size]? = some (.cells (u8s [82, 86, 84, 49]).toArray 5 (0, 0)) := by rw [← hx]; exact heap_alloc_new x _
        have K1 : Hid (Below W.heap.size W x1) := K.out.trans (hb.mono K.out.size)
        obtain ⟨L, hL⟩ : ∃ L, x.heap.size = L := ⟨_, rfl⟩
        have hWL : W.heap.size ≤ L := by rw [← hL]; exact K.out.size
        rw [hL] at SB hs
        have S1 := Lib.hid (S.out.below hb)
        have Z1 : Hid (W.heap.size ≤ L ∧ x1.heap[L]? = some (.cells (u8s [82, 86, 84, 49]).toArray 5 (0, 0))) := ⟨hWL, hs⟩
        clear hs hb hx hL hWL
        refine wpList_build_run _ _ _ rfl rfl _ _ rfl SB ?_
        clear SB
        go_wp2_with fail
        refine planPost_mk ⟨⟨x1, K1.out⟩, rfl⟩ ?_
        exact T51 (L, a1, n1, a2, n2, a3, n3, a4, n4, a5, n5) x1 ⟨K1, S1, Z1⟩
      · skip
        simp only [nth_zero, nth_succ]
        go_wp2_with fail
        go_at_call 137
        refine (HP6.out _).mono ?_
        rintro e x1 ⟨a6, n6, rfl, hs, hb⟩
        have K1 : Hid (Below W.heap.size W x1) := K.out.trans (hb.mono K.out.size)
        have S1 := Lib.hid (S.out.put hb hs)
        clear hs hb
        go_wp2_with fail
        refine planPost_mk ⟨⟨x1, K1.out⟩, rfl⟩ ?_
        exact T60 (a1, n1, a2, n2, a3, n3, a4, n4, a5, n5, a6, n6) x1 ⟨K1, S1⟩
  intro T50
  refine plan_have (ι := Option Addr × Nat × Option Addr × Nat × Option Addr × Nat × Option Addr × Nat) (.two 2 28 (.two 3 28 (.one 28 (.one 33 (.one 38 (.one 39 (.one 40 .leaf))))) (.two 3 33 (.one 33 (.one 38 (.one 39 (.one 40 .leaf)))) (.two 3 38 (.one 38 (.one 39 (.one 40 .leaf))) (.one 3 (.one 39 (.one 40 .leaf)))))) (.two 2 33 (.two 3 33 (.one 33 (.one 38 (.one 39 (.one 40 .leaf)))) (.two 3 38 (.one 38 (.one 39 (.one 40 .leaf))) (.one 3 (.one 39 (.one 40 .leaf))))) (.two 2 38 (.two 3 38 (.one 38 (.one 39 (.one 40 .leaf))) (.one 3 (.one 39 (.one 40 .leaf)))) (.one 2 (.one 3 (.one 39 (.one 40 .leaf))))))) (fun i => { tmps := #[.agg (supC gen g a q).toArray, .pointer (some ⟨B0, 0, none⟩), .pointer (some ⟨B1, 0, none⟩), .pointer (some ⟨B2, 0, none⟩), .pointer (some ⟨B0, 0, none⟩), .int .u32 gen, .agg ((zcs.set 0 (.int .u8 83)).set 1 (.int .u32 gen)).toArray, .pointer (some ⟨B2, 3, none⟩), .slice (some ⟨B2, 3, none⟩) 48 48, undef, undef, .pointer (some ⟨B0, 1, none⟩), .pointer (some ⟨B0, 1, none⟩), .int .i64 g.b, .int .u64 g.b, .slice i.1 2 i.2.1, .pointer (some ⟨B0, 1, none⟩), .pointer (some ⟨B0, 2, none⟩), .int .i64 g.s, .int .u64 g.s, .slice i.2.2.1 1 i.2.2.2.1, .pointer (some ⟨B0, 1, none⟩), .pointer (some ⟨B0, 3, none⟩), .int .i64 g.y, .int .u64 g.y, .slice i.2.2.2.2.1 1 i.2.2.2.2.2.1, .pointer (some ⟨B0, 1, none⟩), .pointer (some ⟨B0, 4, none⟩), .int .i64 g.a, .int .u64 g.a, .slice i.2.2.2.2.2.2.1 2 i.2.2.2.2.2.2.2, .pointer (some ⟨B0, 1, none⟩), .pointer (some ⟨B0, 5, none⟩), .int .i64 g.r, .int .u64 g.r, undef, .pointer (some ⟨B0, 6, none⟩), .pointer (some ⟨B0, 6, none⟩), .int .i64 a, .int .u64 a, undef, .pointer (some ⟨B0, 6, none⟩), .pointer (some ⟨B0, 7, none⟩), .int .u32 q, .int .u64 q, undef, undef, undef, undef, undef], defers := [] }) (fun i x => Hid (Below W.heap.size W x) ∧ Hid (AllSl x [(.slice i.2.2.2.2.2.2.1 2 i.2.2.2.2.2.2.2, putL g.a 2), (.slice i.2.2.2.2.1 1 i.2.2.2.2.2.1, putL g.y 1), (.slice i.2.2.1 1 i.2.2.2.1, putL g.s 1), (.slice i.1 2 i.2.1, putL g.b 2)])) ?_ ?_
  · rintro ⟨a1, n1, a2, n2, a3, n3, a4, n4⟩ x ⟨K, S⟩
    dsimp only
    try dsimp only at S Z
    as_aux_lemma =>
      rw [wpPlan_two]
      refine ⟨?_, ?_⟩
      · skip
        simp only [nth_zero, nth_succ]
        obtain ⟨x1, hx⟩ : ∃ y, x.alloc (.cells (u8s [82, 86, 84, 49]).toArray 5) = y := ⟨_, rfl⟩
        have SB : (Instr.buildSlice 37 4 #[(0, .int .u8 82), (1, .int .u8 86), (2, .int .u8 84), (3, .int .u8 49)]).run Tryz.prog x = .ok (.slice (some ⟨x.heap.size, 0, none⟩) 4 4) x1 := by rw [← hx]; exact build_lit x
        have hb : Below x.heap.size x x1 := by rw [← hx]; exact below_new x _
        have hs : x1.heap[x.heap.size]? = some (.cells (u8s [82, 86, 84, 49]).toArray 5 (0, 0)) := by rw [← hx]; exact heap_alloc_new x _
        have K1 : Hid (Below W.heap.size W x1) := K.out.trans (hb.mono K.out.size)
        obtain ⟨L, hL⟩ : ∃ L, x.heap.size = L := ⟨_, rfl⟩
        have hWL : W.heap.size ≤ L := by rw [← hL]; exact K.out.size
        rw [hL] at SB hs
        have S1 := Lib.hid (S.out.below hb)
        have Z1 : Hid (W.heap.size ≤ L ∧ x1.heap[L]? = some (.cells (u8s [82, 86, 84, 49]).toArray 5 (0, 0))) := ⟨hWL, hs⟩
        clear hs hb hx hL hWL
        refine wpList_build_run _ _ _ rfl rfl _ _ rfl SB ?_
        clear SB
        go_wp2_with fail
        refine planPost_mk ⟨⟨x1, K1.out⟩, rfl⟩ ?_
        exact T41 (L, a1, n1, a2, n2, a3, n3, a4, n4) x1 ⟨K1, S1, Z1⟩
      · skip
        simp only [nth_zero, nth_succ]
        go_wp2_with fail
        go_at_call 137
        refine (HP5.out _).mono ?_
        rintro e x1 ⟨a5, n5, rfl, hs, hb⟩
        have K1 : Hid (Below W.heap.size W x1) := K.out.trans (hb.mono K.out.size)
        have S1 := Lib.hid (S.out.put hb hs)
        clear hs hb
        go_wp2_with fail
        refine planPost_mk ⟨⟨x1, K1.out⟩, rfl⟩ ?_
        exact T50 (a1, n1, a2, n2, a3, n3, a4, n4, a5, n5) x1 ⟨K1, S1⟩
  intro T40
  refine plan_have (ι := Option Addr × Nat × Option Addr × Nat × Option Addr × Nat) (.two 2 23 (.two 3 23 (.one 23 (.one 28 (.one 33 (.one 38 (.one 39 (.one 40 .leaf)))))) (.two 3 28 (.one 28 (.one 33 (.one 38 (.one 39 (.one 40 .leaf))))) (.two 3 33 (.one 33 (.one 38 (.one 39 (.one 40 .leaf)))) (.two 3 38 (.one 38 (.one 39 (.one 40 .leaf))) (.one 3 (.one 39 (.one 40 .leaf))))))) (.two 2 28 (.two 3 28 (.one 28 (.one 33 (.one 38 (.one 39 (.one 40 .leaf))))) (.two 3 33 (.one 33 (.one 38 (.one 39 (.one 40 .leaf)))) (.two 3 38 (.one 38 (.one 39 (.one 40 .leaf))) (.one 3 (.one 39 (.one 40 .leaf)))))) (.two 2 33 (.two 3 33 (.one 33 (.one 38 (.one 39 (.one 40 .leaf)))) (.two 3 38 (.one 38 (.one 39 (.one 40 .leaf))) (.one 3 (.one 39 (.one 40 .leaf))))) (.two 2 38 (.two 3 38 (.one 38 (.one 39 (.one 40 .leaf))) (.one 3 (.one 39 (.one 40 .leaf)))) (.one 2 (.one 3 (.one 39 (.one 40 .leaf)))))))) (fun i => { tmps := #[.agg (supC gen g a q).toArray, .pointer (some ⟨B0, 0, none⟩), .pointer (some ⟨B1, 0, none⟩), .pointer (some ⟨B2, 0, none⟩), .pointer (some ⟨B0, 0, none⟩), .int .u32 gen, .agg ((zcs.set 0 (.int .u8 83)).set 1 (.int .u32 gen)).toArray, .pointer (some ⟨B2, 3, none⟩), .slice (some ⟨B2, 3, none⟩) 48 48, undef, undef, .pointer (some ⟨B0, 1, none⟩), .pointer (some ⟨B0, 1, none⟩), .int .i64 g.b, .int .u64 g.b, .slice i.1 2 i.2.1, .pointer (some ⟨B0, 1, none⟩), .pointer (some ⟨B0, 2, none⟩), .int .i64 g.s, .int .u64 g.s, .slice i.2.2.1 1 i.2.2.2.1, .pointer (some ⟨B0, 1, none⟩), .pointer (some ⟨B0, 3, none⟩), .int .i64 g.y, .int .u64 g.y, .slice i.2.2.2.2.1 1 i.2.2.2.2.2, .pointer (some ⟨B0, 1, none⟩), .pointer (some ⟨B0, 4, none⟩), .int .i64 g.a, .int .u64 g.a, undef, .pointer (some ⟨B0, 1, none⟩), .pointer (some ⟨B0, 5, none⟩), .int .i64 g.r, .int .u64 g.r, undef, .pointer (some ⟨B0, 6, none⟩), .pointer (some ⟨B0, 6, none⟩), .int .i64 a, .int .u64 a, undef, .pointer (some ⟨B0, 6, none⟩), .pointer (some ⟨B0, 7, none⟩), .int .u32 q, .int .u64 q, undef, undef, undef, undef, undef], defers := [] }) (fun i x => Hid (Below W.heap.size W x) ∧ Hid (AllSl x [(.slice i.2.2.2.2.1 1 i.2.2.2.2.2, putL g.y 1), (.slice i.2.2.1 1 i.2.2.2.1, putL g.s 1), (.slice i.1 2 i.2.1, putL g.b 2)])) ?_ ?_
  · rintro ⟨a1, n1, a2, n2, a3, n3⟩ x ⟨K, S⟩
    dsimp only
    try dsimp only at S Z
    as_aux_lemma =>
      rw [wpPlan_two]
      refine ⟨?_, ?_⟩
      · skip
        simp only [nth_zero, nth_succ]
        obtain ⟨x1, hx⟩ : ∃ y, x.alloc (.cells (u8s [82, 86, 84, 49]).toArray 5) = y := ⟨_, rfl⟩
        have SB : (Instr.buildSlice 37 4 #[(0, .int .u8 82), (1, .int .u8 86), (2, .int .u8 84), (3, .int .u8 49)]).run Tryz.prog x = .ok (.slice (some ⟨x.heap.size, 0, none⟩) 4 4) x1 := by rw [← hx]; exact build_lit x
        have hb : Below x.heap.size x x1 := by rw [← hx]; exact below_new x _
        have hs : x1.heap[x.heap.size]? = some (.cells (u8s [82, 86, 84, 49]).toArray 5 (0, 0)) := by rw [← hx]; exact heap_alloc_new x _
        have K1 : Hid (Below W.heap.size W x1) := K.out.trans (hb.mono K.out.size)
        obtain ⟨L, hL⟩ : ∃ L, x.heap.size = L := ⟨_, rfl⟩
        have hWL : W.heap.size ≤ L := by rw [← hL]; exact K.out.size
        rw [hL] at SB hs
        have S1 := Lib.hid (S.out.below hb)
        have Z1 : Hid (W.heap.size ≤ L ∧ x1.heap[L]? = some (.cells (u8s [82, 86, 84, 49]).toArray 5 (0, 0))) := ⟨hWL, hs⟩
        clear hs hb hx hL hWL
        refine wpList_build_run _ _ _ rfl rfl _ _ rfl SB ?_
        clear SB
        go_wp2_with fail
        refine planPost_mk ⟨⟨x1, K1.out⟩, rfl⟩ ?_
        exact T31 (L, a1, n1, a2, n2, a3, n3) x1 ⟨K1, S1, Z1⟩
      · skip
        simp only [nth_zero, nth_succ]
        go_wp2_with fail
        go_at_call 137
        refine (HP4.out _).mono ?_
        rintro e x1 ⟨a4, n4, rfl, hs, hb⟩
        have K1 : Hid (Below W.heap.size W x1) := K.out.trans (hb.mono K.out.size)
        have S1 := Lib.hid (S.out.put hb hs)
        clear hs hb
        go_wp2_with fail
        refine planPost_mk ⟨⟨x1, K1.out⟩, rfl⟩ ?_
        exact T40 (a1, n1, a2, n2, a3, n3, a4, n4) x1 ⟨K1, S1⟩
  intro T30
  refine plan_have (ι := Option Addr × Nat × Option Addr × Nat) (.two 2 18 (.two 3 18 (.one 18 (.one 23 (.one 28 (.one 33 (.one 38 (.one 39 (.one 40 .leaf))))))) (.two 3 23 (.one 23 (.one 28 (.one 33 (.one 38 (.one 39 (.one 40 .leaf)))))) (.two 3 28 (.one 28 (.one 33 (.one 38 (.one 39 (.one 40 .leaf))))) (.two 3 33 (.one 33 (.one 38 (.one 39 (.one 40 .leaf)))) (.two 3 38 (.one 38 (.one 39 (.one 40 .leaf))) (.one 3 (.one 39 (.one 40 .leaf)))))))) (.two 2 23 (.two 3 23 (.one 23 (.one 28 (.one 33 (.one 38 (.one 39 (.one 40 .leaf)))))) (.two 3 28 (.one 28 (.one 33 (.one 38 (.one 39 (.one 40 .leaf))))) (.two 3 33 (.one 33 (.one 38 (.one 39 (.one 40 .leaf)))) (.two 3 38 (.one 38 (.one 39 (.one 40 .leaf))) (.one 3 (.one 39 (.one 40 .leaf))))))) (.two 2 28 (.two 3 28 (.one 28 (.one 33 (.one 38 (.one 39 (.one 40 .leaf))))) (.two 3 33 (.one 33 (.one 38 (.one 39 (.one 40 .leaf)))) (.two 3 38 (.one 38 (.one 39 (.one 40 .leaf))) (.one 3 (.one 39 (.one 40 .leaf)))))) (.two 2 33 (.two 3 33 (.one 33 (.one 38 (.one 39 (.one 40 .leaf)))) (.two 3 38 (.one 38 (.one 39 (.one 40 .leaf))) (.one 3 (.one 39 (.one 40 .leaf))))) (.two 2 38 (.two 3 38 (.one 38 (.one 39 (.one 40 .leaf))) (.one 3 (.one 39 (.one 40 .leaf)))) (.one 2 (.one 3 (.one 39 (.one 40 .leaf))))))))) (fun i => { tmps := #[.agg (supC gen g a q).toArray, .pointer (some ⟨B0, 0, none⟩), .pointer (some ⟨B1, 0, none⟩), .pointer (some ⟨B2, 0, none⟩), .pointer (some ⟨B0, 0, none⟩), .int .u32 gen, .agg ((zcs.set 0 (.int .u8 83)).set 1 (.int .u32 gen)).toArray, .pointer (some ⟨B2, 3, none⟩), .slice (some ⟨B2, 3, none⟩) 48 48, undef, undef, .pointer (some ⟨B0, 1, none⟩), .pointer (some ⟨B0, 1, none⟩), .int .i64 g.b, .int .u64 g.b, .slice i.1 2 i.2.1, .pointer (some ⟨B0, 1, none⟩), .pointer (some ⟨B0, 2, none⟩), .int .i64 g.s, .int .u64 g.s, .slice i.2.2.1 1 i.2.2.2, .pointer (some ⟨B0, 1, none⟩), .pointer (some ⟨B0, 3, none⟩), .int .i64 g.y, .int .u64 g.y, undef, .pointer (some ⟨B0, 1, none⟩), .pointer (some ⟨B0, 4, none⟩), .int .i64 g.a, .int .u64 g.a, undef, .pointer (some ⟨B0, 1, none⟩), .pointer (some ⟨B0, 5, none⟩), .int .i64 g.r, .int .u64 g.r, undef, .pointer (some ⟨B0, 6, none⟩), .pointer (some ⟨B0, 6, none⟩), .int .i64 a, .int .u64 a, undef, .pointer (some ⟨B0, 6, none⟩), .pointer (some ⟨B0, 7, none⟩), .int .u32 q, .int .u64 q, undef, undef, undef, undef, undef], defers := [] }) (fun i x => Hid (Below W.heap.size W x) ∧ Hid (AllSl x [(.slice i.2.2.1 1 i.2.2.2, putL g.s 1), (.slice i.1 2 i.2.1, putL g.b 2)])) ?_ ?_
  · rintro ⟨a1, n1, a2, n2⟩ x ⟨K, S⟩
    dsimp only
    try dsimp only at S Z
    as_aux_lemma =>
      rw [wpPlan_two]
      refine ⟨?_, ?_⟩
      · skip
        simp only [nth_zero, nth_succ]
        obtain ⟨x1, hx⟩ : ∃ y, x.alloc (.cells (u8s [82, 86, 84, 49]).toArray 5) = y := ⟨_, rfl⟩
        have SB : (Instr.buildSlice 37 4 #[(0, .int .u8 82), (1, .int .u8 86), (2, .int .u8 84), (3, .int .u8 49)]).run Tryz.prog x = .ok (.slice (some ⟨x.heap.size, 0, none⟩) 4 4) x1 := by rw [← hx]; exact build_lit x
        have hb : Below x.heap.size x x1 := by rw [← hx]; exact below_new x _
        have hs : x1.heap[x.heap.size]? = some (.cells (u8s [82, 86, 84, 49]).toArray 5 (0, 0)) := by rw [← hx]; exact heap_alloc_new x _
        have K1 : Hid (Below W.heap.size W x1) := K.out.trans (hb.mono K.out.size)
        obtain ⟨L, hL⟩ : ∃ L, x.heap.size = L := ⟨_, rfl⟩
        have hWL : W.heap.size ≤ L := by rw [← hL]; exact K.out.size
        rw [hL] at SB hs
        have S1 := Lib.hid (S.out.below hb)
        have Z1 : Hid (W.heap.size ≤ L ∧ x1.heap[L]? = some (.cells (u8s [82, 86, 84, 49]).toArray 5 (0, 0))) := ⟨hWL, hs⟩
        clear hs hb hx hL hWL
        refine wpList_build_run _ _ _ rfl rfl _ _ rfl SB ?_
        clear SB
        go_wp2_with fail
        refine planPost_mk ⟨⟨x1, K1.out⟩, rfl⟩ ?_
        exact T21 (L, a1, n1, a2, n2) x1 ⟨K1, S1, Z1⟩
      · skip
        simp only [nth_zero, nth_succ]
        go_wp2_with fail
        go_at_call 137
        refine (HP3.out _).mono ?_
        rintro e x1 ⟨a3, n3, rfl, hs, hb⟩
        have K1 : Hid (Below W.heap.size W x1) := K.out.trans (hb.mono K.out.size)
        have S1 := Lib.hid (S.out.put hb hs)
        clear hs hb
        go_wp2_with fail
        refine planPost_mk ⟨⟨x1, K1.out⟩, rfl⟩ ?_
        exact T30 (a1, n1, a2, n2, a3, n3) x1 ⟨K1, S1⟩
  intro T20
  refine plan_have (ι := Option Addr × Nat) (.two 2 13 (.two 3 13 (.one 13 (.one 18 (.one 23 (.one 28 (.one 33 (.one 38 (.one 39 (.one 40 .leaf)))))))) (.two 3 18 (.one 18 (.one 23 (.one 28 (.one 33 (.one 38 (.one 39 (.one 40 .leaf))))))) (.two 3 23 (.one 23 (.one 28 (.one 33 (.one 38 (.one 39 (.one 40 .leaf)))))) (.two 3 28 (.one 28 (.one 33 (.one 38 (.one 39 (.one 40 .leaf))))) (.two 3 33 (.one 33 (.one 38 (.one 39 (.one 40 .leaf)))) (.two 3 38 (.one 38 (.one 39 (.one 40 .leaf))) (.one 3 (.one 39 (.one 40 .leaf))))))))) (.two 2 18 (.two 3 18 (.one 18 (.one 23 (.one 28 (.one 33 (.one 38 (.one 39 (.one 40 .leaf))))))) (.two 3 23 (.one 23 (.one 28 (.one 33 (.one 38 (.one 39 (.one 40 .leaf)))))) (.two 3 28 (.one 28 (.one 33 (.one 38 (.one 39 (.one 40 .leaf))))) (.two 3 33 (.one 33 (.one 38 (.one 39 (.one 40 .leaf)))) (.two 3 38 (.one 38 (.one 39 (.one 40 .leaf))) (.one 3 (.one 39 (.one 40 .leaf)))))))) (.two 2 23 (.two 3 23 (.one 23 (.one 28 (.one 33 (.one 38 (.one 39 (.one 40 .leaf)))))) (.two 3 28 (.one 28 (.one 33 (.one 38 (.one 39 (.one 40 .leaf))))) (.two 3 33 (.one 33 (.one 38 (.one 39 (.one 40 .leaf)))) (.two 3 38 (.one 38 (.one 39 (.one 40 .leaf))) (.one 3 (.one 39 (.one 40 .leaf))))))) (.two 2 28 (.two 3 28 (.one 28 (.one 33 (.one 38 (.one 39 (.one 40 .leaf))))) (.two 3 33 (.one 33 (.one 38 (.one 39 (.one 40 .leaf)))) (.two 3 38 (.one 38 (.one 39 (.one 40 .leaf))) (.one 3 (.one 39 (.one 40 .leaf)))))) (.two 2 33 (.two 3 33 (.one 33 (.one 38 (.one 39 (.one 40 .leaf)))) (.two 3 38 (.one 38 (.one 39 (.one 40 .leaf))) (.one 3 (.one 39 (.one 40 .leaf))))) (.two 2 38 (.two 3 38 (.one 38 (.one 39 (.one 40 .leaf))) (.one 3 (.one 39 (.one 40 .leaf)))) (.one 2 (.one 3 (.one 39 (.one 40 .leaf)))))))))) (fun i => { tmps := #[.agg (supC gen g a q).toArray, .pointer (some ⟨B0, 0, none⟩), .pointer (some ⟨B1, 0, none⟩), .pointer (some ⟨B2, 0, none⟩), .pointer (some ⟨B0, 0, none⟩), .int .u32 gen, .agg ((zcs.set 0 (.int .u8 83)).set 1 (.int .u32 gen)).toArray, .pointer (some ⟨B2, 3, none⟩), .slice (some ⟨B2, 3, none⟩) 48 48, undef, undef, .pointer (some ⟨B0, 1, none⟩), .pointer (some ⟨B0, 1, none⟩), .int .i64 g.b, .int .u64 g.b, .slice i.1 2 i.2, .pointer (some ⟨B0, 1, none⟩), .pointer (some ⟨B0, 2, none⟩), .int .i64 g.s, .int .u64 g.s, undef, .pointer (some ⟨B0, 1, none⟩), .pointer (some ⟨B0, 3, none⟩), .int .i64 g.y, .int .u64 g.y, undef, .pointer (some ⟨B0, 1, none⟩), .pointer (some ⟨B0, 4, none⟩), .int .i64 g.a, .int .u64 g.a, undef, .pointer (some ⟨B0, 1, none⟩), .pointer (some ⟨B0, 5, none⟩), .int .i64 g.r, .int .u64 g.r, undef, .pointer (some ⟨B0, 6, none⟩), .pointer (some ⟨B0, 6, none⟩), .int .i64 a, .int .u64 a, undef, .pointer (some ⟨B0, 6, none⟩), .pointer (some ⟨B0, 7, none⟩), .int .u32 q, .int .u64 q, undef, undef, undef, undef, undef], defers := [] }) (fun i x => Hid (Below W.heap.size W x) ∧ Hid (AllSl x [(.slice i.1 2 i.2, putL g.b 2)])) ?_ ?_
  · rintro ⟨a1, n1⟩ x ⟨K, S⟩
    dsimp only
    try dsimp only at S Z
    as_aux_lemma =>
      rw [wpPlan_two]
      refine ⟨?_, ?_⟩
      · skip
        simp only [nth_zero, nth_succ]
        obtain ⟨x1, hx⟩ : ∃ y, x.alloc (.cells (u8s [82, 86, 84, 49]).toArray 5) = y := ⟨_, rfl⟩
        have SB : (Instr.buildSlice 37 4 #[(0, .int .u8 82), (1, .int .u8 86), (2, .int .u8 84), (3, .int .u8 49)]).run Tryz.prog x = .ok (.slice (some ⟨x.heap.size, 0, none⟩) 4 4) x1 := by rw [← hx]; exact build_lit x
        have hb : Below x.heap.size x x1 := by rw [← hx]; exact below_new x _
        have hs : x1.heap[x.heap.size]? = some (.cells (u8s [82, 86, 84, 49]).toArray 5 (0, 0)) := by rw [← hx]; exact heap_alloc_new x _
        have K1 : Hid (Below W.heap.size W x1) := K.out.trans (hb.mono K.out.size)
        obtain ⟨L, hL⟩ : ∃ L, x.heap.size = L := ⟨_, rfl⟩
        have hWL : W.heap.size ≤ L := by rw [← hL]; exact K.out.size
        rw [hL] at SB hs
        have S1 := Lib.hid (S.out.below hb)
        have Z1 : Hid (W.heap.size ≤ L ∧ x1.heap[L]? = some (.cells (u8s [82, 86, 84, 49]).toArray 5 (0, 0))) := ⟨hWL, hs⟩
        clear hs hb hx hL hWL
        refine wpList_build_run _ _ _ rfl rfl _ _ rfl SB ?_
        clear SB
        go_wp2_with fail
        refine planPost_mk ⟨⟨x1, K1.out⟩, rfl⟩ ?_
        exact T11 (L, a1, n1) x1 ⟨K1, S1, Z1⟩
      · skip
        simp only [nth_zero, nth_succ]
        go_wp2_with fail
        go_at_call 137
        refine (HP2.out _).mono ?_
        rintro e x1 ⟨a2, n2, rfl, hs, hb⟩
        have K1 : Hid (Below W.heap.size W x1) := K.out.trans (hb.mono K.out.size)
        have S1 := Lib.hid (S.out.put hb hs)
        clear hs hb
        go_wp2_with fail
        refine planPost_mk ⟨⟨x1, K1.out⟩, rfl⟩ ?_
        exact T20 (a1, n1, a2, n2) x1 ⟨K1, S1⟩
  intro T10
  have S : Hid (AllSl x0 []) := AllSl.nil _
  obtain ⟨x, hx0⟩ : ∃ x, x0 = x := ⟨_, rfl⟩
  rw [hx0] at S K0
  try rw [hx0]
  clear hx0
  have K := K0
  rw [wpPlan_two]
  refine ⟨?_, ?_⟩
  · skip
    simp only [nth_zero, nth_succ]
    obtain ⟨x1, hx⟩ : ∃ y, x.alloc (.cells (u8s [82, 86, 84, 49]).toArray 5) = y := ⟨_, rfl⟩
    have SB : (Instr.buildSlice 37 4 #[(0, .int .u8 82), (1, .int .u8 86), (2, .int .u8 84), (3, .int .u8 49)]).run Tryz.prog x = .ok (.slice (some ⟨x.heap.size, 0, none⟩) 4 4) x1 := by rw [← hx]; exact build_lit x
    have hb : Below x.heap.size x x1 := by rw [← hx]; exact below_new x _
    have hs : x1.heap[x.heap.size]? = some (.cells (u8s [82, 86, 84, 49]).toArray 5 (0, 0)) := by rw [← hx]; exact heap_alloc_new x _
    have K1 : Hid (Below W.heap.size W x1) := K.out.trans (hb.mono K.out.size)
    obtain ⟨L, hL⟩ : ∃ L, x.heap.size = L := ⟨_, rfl⟩
    have hWL : W.heap.size ≤ L := by rw [← hL]; exact K.out.size
    rw [hL] at SB hs
    have S1 := Lib.hid (S.out.below hb)
    have Z1 : Hid (W.heap.size ≤ L ∧ x1.heap[L]? = some (.cells (u8s [82, 86, 84, 49]).toArray 5 (0, 0))) := ⟨hWL, hs⟩
    clear hs hb hx hL hWL
    refine wpList_build_run _ _ _ rfl rfl _ _ rfl SB ?_
    clear SB
    go_wp2_with fail
    refine planPost_mk ⟨⟨x1, K1.out⟩, rfl⟩ ?_
    exact T01 L x1 ⟨K1, S1, Z1⟩
  · skip
    simp only [nth_zero, nth_succ]
    go_wp2_with fail
    go_at_call 137
    refine (HP1.out _).mono ?_
    rintro e x1 ⟨a1, n1, rfl, hs, hb⟩
    have K1 : Hid (Below W.heap.size W x1) := K.out.trans (hb.mono K.out.size)
    have S1 := Lib.hid (S.out.put hb hs)
    clear hs hb
    go_wp2_with fail
    refine planPost_mk ⟨⟨x1, K1.out⟩, rfl⟩ ?_
    exact T10 (a1, n1) x1 ⟨K1, S1⟩
end Go.Proofs.YtbdfllamhcodjaaGreat

/- The document's geometry: bytes, Good, Of, Slot, Area. -/
namespace Go.Proofs.YtbdfllamhcodjaaGreat
open Go.RowKit Go.Shelf
set_option linter.unusedVariables false

theorem loadVar_openG (t : TypeId) (h : t ≠ 23 ∧ t ≠ 39) (a : Addr) : loadVar t a = (do if ← isAgg t then pure (.agg (← loadCells a (← sizeOf t))) else load a) := rfl
theorem storeVar_openG (t : TypeId) (h : t ≠ 23 ∧ t ≠ 39) (a : Addr) (v : Value) : storeVar t a v = (do
    if v.cells.size ≠ (← sizeOf t) then stuck "storeVar: the value has not the size of the variable"
    storeCells a v.cells.toList) := rfl
attribute [-go_sem] loadVar storeVar
attribute [local go_sem] loadVar_openG storeVar_openG
def Geo.cs (g : Geo) : List Value := [.int .i64 g.b, .int .i64 g.s, .int .i64 g.y, .int .i64 g.a, .int .i64 g.r]
set_option maxRecDepth 100000 in
theorem load_geo {x : World} {B : Nat} {t : TypeId} {g : Geo} (h : RowC x B t g.cs) : (loadVar 23 ⟨B, 0, none⟩).run Tryz.prog x = .ok (.agg g.v) x :=
  run_loadVar_mid x B 0 _ g.cs _ h.range Tryz.underlying23 rfl (by kernel_rfl)
set_option maxRecDepth 100000 in
theorem size_szs : (Tryz.prog.info? 39).map (·.size) = some 8 := by kernel_rfl
def szL (a b c d e f h i : Int) : List Value := [.int .i64 a, .int .i64 b, .int .i64 c, .int .i64 d, .int .i64 e, .int .i64 f, .int .i64 h, .int .i64 i]
set_option maxRecDepth 100000 in
theorem load_szs {x : World} {B : Nat} {t : TypeId} {a b c d e f h i : Int} (hr : RowC x B t (szL a b c d e f h i)) : (loadVar 39 ⟨B, 0, none⟩).run Tryz.prog x = .ok (.agg (szL a b c d e f h i).toArray) x :=
  run_loadVar_mid x B 0 _ (szL a b c d e f h i) _ hr.range Tryz.underlying39 rfl (by kernel_rfl)
set_option maxRecDepth 100000 in
theorem store_szs {x : World} {B : Nat} {old : List Value} {a b c d e f h i : Int} (hr : RowC x B 39 old) (ho : old.length = 8) :
    ∃ y, (storeVar 39 ⟨B, 0, none⟩ (.agg (szL a b c d e f h i).toArray)).run Tryz.prog x = .ok () y ∧ RowC y B 39 (szL a b c d e f h i) ∧ x.grownBy y (some B) := by
  refine ⟨_, run_storeVar_row x B _ _ old.toArray (szL a b c d e f h i).toArray hr size_szs (by simpa [szL] using ho) (by kernel_rfl), setRow_heap x B _ _ _ _ hr, ?_⟩
  exact ⟨rfl, rfl, rfl, by rw [setRow_size]; exact Nat.le_refl _, fun k _ hk => setRow_other x B k _ (fun e => hk (by rw [e]))⟩
set_option maxRecDepth 100000 in
theorem new_szs (x : World) (a b c d e f h i : Int) : ∃ y, (storeVar 39 ⟨x.heap.size, 0, none⟩ (.agg (szL a b c d e f h i).toArray)).run Tryz.prog (x.alloc (.cells (szL 0 0 0 0 0 0 0 0).toArray 39)) = .ok () y ∧ RowC y x.heap.size 39 (szL a b c d e f h i) ∧ Below x.heap.size x y :=
  ⟨_, run_storeVar_new x _ _ (szL a b c d e f h i).toArray size_szs rfl (by kernel_rfl), RowC.new x _ _, below_new x _⟩
theorem grownBy_cell (W : World) (b j : Nat) (v : Value) : W.grownBy (W.setCell ⟨b, j, none⟩ v) (some b) :=
  ⟨rfl, rfl, rfl, (KeepsWalks.setCell W _ v).size, fun k _ hk => Below.heap_setCell _ _ _ k (fun e => hk (by rw [e]))⟩

section
set_option maxRecDepth 100000
set_option maxHeartbeats 4000000
set_option maxRecDepth 100000 in
theorem refBts (g : Geo) (hs : g.shape) (w : World) : Calls Tryz.prog 44 #[.agg g.v] w fun e w' => e = .returned (.int .i64 g.bts) ∧ Below w.heap.size w w' := by
  obtain ⟨b1, b2, b3, b4, b5, b6⟩ := Geo.bounds hs
  have HBT : Hid (g.bts = 10 + g.s * g.y + g.b + 8 * (4 + (g.b + 7) / 8 + g.b)) := rfl
  obtain ⟨W, hW⟩ : ∃ W, w.alloc (.cells g.v 23) = W := ⟨_, rfl⟩
  have r : RowC W w.heap.size 23 g.cs := by rw [← hW]; exact RowC.new w _ _
  have HB : Hid (Below w.heap.size w W) := by show Below _ _ _; rw [← hW]; exact below_new w _
  have c0 := r.cell 0 _ rfl
  have c1 := r.cell 1 _ rfl
  have c2 := r.cell 2 _ rfl
  obtain ⟨h1, h2, h3, h4, h5, h6, h7, h8⟩ := hs
  have m1 : 1 ≤ g.s * g.y := b1
  have m2 : g.s * g.y ≤ 32 := b2
  obtain ⟨b, hb⟩ : ∃ n, g.b = n := ⟨_, rfl⟩
  obtain ⟨s, hs⟩ : ∃ n, g.s = n := ⟨_, rfl⟩
  obtain ⟨y, hy⟩ : ∃ n, g.y = n := ⟨_, rfl⟩
  obtain ⟨m, hm⟩ : ∃ n, s * y = n := ⟨_, rfl⟩
  obtain ⟨k, hk⟩ : ∃ n, (b + 7).tdiv 8 = n := ⟨_, rfl⟩
  rw [hb] at c0 h1 h2 HBT
  rw [hs, hy] at m1 m2 HBT
  rw [hs] at c1 h3 h4
  rw [hy] at c2 h5 h6
  rw [hm] at m1 m2 HBT
  have hk2 : (b + 7) / 8 = k := by rw [← hk, Int.tdiv_eq_ediv_of_nonneg (by omega)]
  have hk3 : 1 ≤ k ∧ k ≤ 8 := by omega
  have HK2 := Lib.hid hk2
  obtain ⟨k1, k2⟩ := hk3
  clear r b1 b2 b3 b4 b5 b6 h7 h8 hb hs hy hk2
  go_enter Tryz.func44, Tryz.ntmps44
  go_wp2_with fail
  go_ret
  refine ⟨?_, HB.out⟩
  rw [HBT.out, HK2.out]
  first
    | rfl
    | exact congrArg (fun x => Ending.returned (Value.int .i64 x)) (by omega)
set_option maxRecDepth 100000 in
theorem refGood7 (g : Geo) (w : World) : Calls Tryz.prog 35 #[.agg g.v] w fun e w' => e = .returned (.bool (decide g.good)) ∧ Below w.heap.size w w' := by
  obtain ⟨W, hW⟩ : ∃ W, w.alloc (.cells g.v 23) = W := ⟨_, rfl⟩
  have r : RowC W w.heap.size 23 g.cs := by rw [← hW]; exact RowC.new w _ _
  have HB : Hid (Below w.heap.size w W) := by show Below _ _ _; rw [← hW]; exact below_new w _
  obtain ⟨B, hB⟩ : ∃ b, w.heap.size = b := ⟨_, rfl⟩
  rw [hB] at r
  have LG : ∀ x : Ext W, (loadVar 23 ⟨B, 0, none⟩).run Tryz.prog x.1 = .ok (.agg g.v) x.1 := fun x => load_geo (r.below x.2)
  have c4 : ∀ x : Ext W, x.1.cell? ⟨B, 4, none⟩ = some (.int .i64 g.r) := fun x => (r.below x.2).cell 4 _ rfl
  obtain ⟨z, hz⟩ : ∃ z, decide g.shape = z := ⟨_, rfl⟩
  have C1 : Hid (∀ x : Ext W, Calls Tryz.prog 88 #[.agg g.v] x.1 fun e w'' => e = .returned (.bool z) ∧ ∃ y : Ext W, w'' = y.1) := fun x => calls_ext x (by have := refShape g x.1; rwa [hz] at this)
  cases z with
  | false =>
    have hg : Hid (decide g.good = false) := decide_eq_false (fun h => of_decide_eq_false hz h.1)
    clear r hz
    go_enter Tryz.func35, Tryz.ntmps35
    go_wp2_with fail
    refine region_ext (by kernel_rfl) (by kernel_rfl) ?_
    repeat (go_big_quiet_step (with_reducible (first | exact C1.out _)))
    refine wpQuiet_nil ?_
    intro x
    have HX : Hid (Below w.heap.size w x.1) := HB.out.trans (x.2.mono HB.out.size)
    clear LG c4
    go_wp2_with fail
    go_ret
    rw [hg.out]
    exact ⟨rfl, HX.out⟩
  | true =>
    have hs : g.shape := of_decide_eq_true hz
    obtain ⟨b1, b2, b3, b4, b5, b6⟩ := Geo.bounds hs
    have C2 : Hid (∀ x : Ext W, Calls Tryz.prog 44 #[.agg g.v] x.1 fun e w'' => e = .returned (.int .i64 g.bts) ∧ ∃ y : Ext W, w'' = y.1) := fun x => calls_ext x (refBts g hs x.1)
    have C3 : Hid (∀ x : Ext W, Calls Tryz.prog 45 #[.int .i64 g.bts] x.1 fun e w'' => e = .returned (.int .i64 g.pgs) ∧ ∃ y : Ext W, w'' = y.1) := fun x => (refCount g.bts x.1 (by omega) (by omega)).mono fun e w'' ⟨h1, h2⟩ => ⟨h1, x, h2⟩
    have hg : Hid (decide g.good = decide (g.pgs + 2 ≤ g.r ∧ g.r ≤ 256)) := by
      show _ = _
      rw [decide_eq_decide]
      exact ⟨fun h => h.2, fun h => ⟨hs, h⟩⟩
    obtain ⟨P, hP⟩ : ∃ n, g.pgs = n := ⟨_, rfl⟩
    obtain ⟨T, hT⟩ : ∃ n, g.bts = n := ⟨_, rfl⟩
    obtain ⟨R, hR⟩ : ∃ n, g.r = n := ⟨_, rfl⟩
    rw [hP, hT] at C3
    rw [hT] at C2
    rw [hR] at c4
    rw [hP, hR] at hg
    rw [hP] at b5 b6
    clear r hz hs b1 b2 b3 b4 hP hT hR
    by_cases q1 : P + 2 ≤ R
    · have g1 : decide (P + 2 ≤ R) = true := by simpa using q1
      have g1' : decide (R ≥ P + 2) = true := g1
      by_cases q2 : R ≤ 256
      · have g2 : decide (R ≤ 256) = true := by simpa using q2
        have hgd : Hid (decide g.good = true) := by show _ = _; rw [hg.out]; exact decide_eq_true ⟨q1, q2⟩
        go_enter Tryz.func35, Tryz.ntmps35
        go_wp2_with fail
        refine region_ext (by kernel_rfl) (by kernel_rfl) ?_
        repeat (go_big_quiet_step (with_reducible (first | exact C1.out _ | exact C2.out _ | exact C3.out _)))
        refine wpQuiet_nil ?_
        intro x
        have HX : Hid (Below w.heap.size w x.1) := HB.out.trans (x.2.mono HB.out.size)
        clear LG c4
        go_wp2_with fail
        go_ret
        rw [hgd.out]
        exact ⟨rfl, HX.out⟩
      · have g2 : decide (R ≤ 256) = false := by simpa using q2
        have hgd : Hid (decide g.good = false) := by show _ = _; rw [hg.out]; exact decide_eq_false (fun h => q2 h.2)
        go_enter Tryz.func35, Tryz.ntmps35
        go_wp2_with fail
        refine region_ext (by kernel_rfl) (by kernel_rfl) ?_
        repeat (go_big_quiet_step (with_reducible (first | exact C1.out _ | exact C2.out _ | exact C3.out _)))
        refine wpQuiet_nil ?_
        intro x
        have HX : Hid (Below w.heap.size w x.1) := HB.out.trans (x.2.mono HB.out.size)
        clear LG c4
        go_wp2_with fail
        go_ret
        rw [hgd.out]
        exact ⟨rfl, HX.out⟩
    · have g1 : decide (P + 2 ≤ R) = false := by simpa using q1
      have g1' : decide (R ≥ P + 2) = false := g1
      have hgd : Hid (decide g.good = false) := by show _ = _; rw [hg.out]; exact decide_eq_false (fun h => q1 h.1)
      go_enter Tryz.func35, Tryz.ntmps35
      go_wp2_with fail
      refine region_ext (by kernel_rfl) (by kernel_rfl) ?_
      repeat (go_big_quiet_step (with_reducible (first | exact C1.out _ | exact C2.out _ | exact C3.out _)))
      refine wpQuiet_nil ?_
      intro x
      have HX : Hid (Below w.heap.size w x.1) := HB.out.trans (x.2.mono HB.out.size)
      clear LG c4
      go_wp2_with fail
      go_ret
      rw [hgd.out]
      exact ⟨rfl, HX.out⟩
end
end Go.Proofs.YtbdfllamhcodjaaGreat

/- The document's geometry: Of, Slot, Area. -/
namespace Go.Proofs.YtbdfllamhcodjaaGreat
open Go.RowKit Go.Shelf
set_option linter.unusedVariables false
attribute [-simp] Tryz.isAgg39 Tryz.zeroValue39
attribute [-go_sem] loadVar storeVar
set_option maxRecDepth 100000 in
theorem zero_szs (w : World) : (zeroValue 39).run Tryz.prog w = .ok (.agg (szL 0 0 0 0 0 0 0 0).toArray) w := by kernel_rfl
set_option maxRecDepth 100000 in
theorem build_szs0 (w : World) : (Instr.build 39 #[]).run Tryz.prog w = .ok (.agg (szL 0 0 0 0 0 0 0 0).toArray) w := by kernel_rfl
set_option maxRecDepth 100000 in
theorem build_szs3 (a c d : Int) (w : World) : (Instr.build 39 #[(0, .int .i64 a), (2, .int .i64 c), (3, .int .i64 d)]).run Tryz.prog w = .ok (.agg (szL a 0 c d 0 0 0 0).toArray) w := by kernel_rfl
attribute [local go_sem] loadVar_openG storeVar_openG zero_szs build_szs0
/-- What Of tells. -/
def Geo.szl (g : Geo) : List Value := if g.good then szL g.bts g.pgs g.slots 2 (2 + g.r) (2 + g.r + g.pgs) (2 + g.r + g.pgs + g.slots) (g.b + g.a) else szL 0 0 0 0 0 0 0 0

section
set_option maxRecDepth 100000
set_option maxHeartbeats 8000000
set_option maxRecDepth 100000 in
theorem refOf (g : Geo) (w : World) : Calls Tryz.prog 15 #[.agg g.v] w fun e w' => e = .returned (.agg g.szl.toArray) ∧ Below w.heap.size w w' := by
  have hmx : Tryz.prog.follows .mixedOrders = true := by kernel_rfl
  obtain ⟨V, hV⟩ : ∃ V, w.alloc (.cells g.v 23) = V := ⟨_, rfl⟩
  have r : RowC V w.heap.size 23 g.cs := by rw [← hV]; exact RowC.new w _ _
  have hb0 : Below w.heap.size w V := by rw [← hV]; exact below_new w _
  obtain ⟨W, hW⟩ : ∃ W, V.alloc (.cells (szL 0 0 0 0 0 0 0 0).toArray 39) = W := ⟨_, rfl⟩
  have hb1 : Below V.heap.size V W := by rw [← hW]; exact below_new V _
  have rz : RowC W V.heap.size 39 (szL 0 0 0 0 0 0 0 0) := by rw [← hW]; exact RowC.new V _ _
  have r := r.below hb1
  have HB : Hid (Below w.heap.size w W) := hb0.trans (hb1.mono hb0.size)
  have HV : Hid (w.heap.size ≤ V.heap.size) := hb0.size
  obtain ⟨B, hB⟩ : ∃ b, w.heap.size = b := ⟨_, rfl⟩
  obtain ⟨Z, hZ⟩ : ∃ b, V.heap.size = b := ⟨_, rfl⟩
  rw [hZ] at rz HV
  have HVW : Hid (w.heap.size ≤ Z) := HV
  rw [hB] at r
  have HR := Lib.hid r
  have HLG : Hid (∀ x, Below W.heap.size W x → (loadVar 23 ⟨B, 0, none⟩).run Tryz.prog x = .ok (.agg g.v) x) := fun x hx => load_geo (r.below hx)
  have HRZ := Lib.hid rz
  have L0 := load_geo r
  have HG := Lib.hid (fun x => refGood7 g x)
  clear r rz hb0 hb1
  by_cases hg : g.good
  · have hgd : decide g.good = true := by simpa using hg
    have e1 : g.szl = szL g.bts g.pgs g.slots 2 (2 + g.r) (2 + g.r + g.pgs) (2 + g.r + g.pgs + g.slots) (g.b + g.a) := by unfold Geo.szl; rw [if_pos hg]
    rw [hgd] at HG
    obtain ⟨b1, b2, b3, b4, b5, b6⟩ := Geo.bounds hg.1
    have HBT := Lib.hid (fun x => refBts g hg.1 x)
    have HCN := Lib.hid (fun x => refCount g.bts x (by omega) (by omega))
    have g1 := hg.1
    obtain ⟨h1, h2, h3, h4, h5, h6, h7, h8⟩ := g1
    have h9 := hg.2.1
    have h10 := hg.2.2
    rw [e1]
    have hpg : cnt g.bts = g.pgs := rfl
    rw [hpg] at HCN
    obtain ⟨P, hP⟩ : ∃ n, g.pgs = n := ⟨_, rfl⟩
    obtain ⟨T, hT⟩ : ∃ n, g.bts = n := ⟨_, rfl⟩
    obtain ⟨M, hM⟩ : ∃ n, g.slots = n := ⟨_, rfl⟩
    obtain ⟨bb, hbb⟩ : ∃ n, g.b = n := ⟨_, rfl⟩
    obtain ⟨ss, hss⟩ : ∃ n, g.s = n := ⟨_, rfl⟩
    obtain ⟨yy, hyy⟩ : ∃ n, g.y = n := ⟨_, rfl⟩
    obtain ⟨aa, haa⟩ : ∃ n, g.a = n := ⟨_, rfl⟩
    obtain ⟨rr, hrr⟩ : ∃ n, g.r = n := ⟨_, rfl⟩
    have hsy : ss * yy = M := by rw [← hss, ← hyy, ← hM]; rfl
    have HC : Hid (∀ x, Below W.heap.size W x → x.cell? ⟨B, 0, none⟩ = some (.int .i64 bb) ∧ x.cell? ⟨B, 1, none⟩ = some (.int .i64 ss) ∧ x.cell? ⟨B, 2, none⟩ = some (.int .i64 yy) ∧ x.cell? ⟨B, 3, none⟩ = some (.int .i64 aa) ∧ x.cell? ⟨B, 4, none⟩ = some (.int .i64 rr)) := fun x hx => by
      have r := HR.out.below hx
      have k0 := r.cell 0 _ rfl
      have k1 := r.cell 1 _ rfl
      have k2 := r.cell 2 _ rfl
      have k3 := r.cell 3 _ rfl
      have k4 := r.cell 4 _ rfl
      rw [hbb] at k0
      rw [hss] at k1
      rw [hyy] at k2
      rw [haa] at k3
      rw [hrr] at k4
      exact ⟨k0, k1, k2, k3, k4⟩
    rw [hP, hT] at HCN
    rw [hT] at HBT
    rw [hP, hT, hM, hbb, haa, hrr]
    rw [hM] at b1 b2
    rw [hT] at b3 b4
    rw [hP] at b5 b6 h9
    rw [hbb] at h1 h2
    rw [hss] at h3 h4
    rw [hyy] at h5 h6
    rw [haa] at h7 h8
    rw [hrr] at h9 h10
    clear e1 hgd hpg hP hT hM hbb hss hyy haa hrr hg
    go_enter Tryz.func15, Tryz.ntmps15
    go_wp2_with fail
    go_at_call 35
    refine (HG.out _).mono ?_
    rintro e x ⟨rfl, hbx⟩
    have HX := Lib.hid hbx
    have LG : ∀ z : Ext x, (loadVar 23 ⟨B, 0, none⟩).run Tryz.prog z.1 = .ok (.agg g.v) z.1 := fun z => HLG.out z.1 (hbx.trans (z.2.mono hbx.size))
    have C1 : ∀ z : Ext x, z.1.cell? ⟨B, 1, none⟩ = some (.int .i64 ss) := fun z => (HC.out z.1 (hbx.trans (z.2.mono hbx.size))).2.1
    have C2 : ∀ z : Ext x, z.1.cell? ⟨B, 2, none⟩ = some (.int .i64 yy) := fun z => (HC.out z.1 (hbx.trans (z.2.mono hbx.size))).2.2.1
    clear hbx L0
    go_wp2_with fail
    refine region_plan (fun u => ∃ y : Ext x, u = y.1) 9 (.takes [0, 2, 3, 4, 5, 6] (.two 1 8 (.two 7 8 (.one 8 .leaf) (.one 7 .leaf)) (.one 1 (.one 7 .leaf)))) hmx (by kernel_rfl) (by intro c x v a w h; cases x <;> exact h) ⟨⟨x.drew, (Below.refl _ x).drew⟩, rfl⟩ ?_
    repeat (rw [wpPlan_takes_cons]; simp only [nth_zero, nth_succ]; go_big_quiet_step (fail); refine wpQuiet_nil ?_)
    rw [wpPlan_takes_nil]
    clear LG C1 C2
    obtain ⟨X, hX⟩ : ∃ X, x.drew = X := ⟨_, rfl⟩
    have HXX : Hid (Below x.heap.size x X) := by show Below _ _ _; rw [← hX]; exact (Below.refl _ x).drew
    rw [hX]
    clear hX
    refine ⟨?_, ?_⟩
    · simp only [nth_zero, nth_succ]
      go_wp2_with fail
      go_at_call 44
      refine (HBT.out _).mono ?_
      rintro e x1 ⟨rfl, hbq⟩
      have HX1 : Hid (Below x.heap.size x x1) := HXX.out.trans (hbq.mono HXX.out.size)
      clear hbq
      go_wp2_with fail
      refine planPost_mk ⟨⟨x1, HX1.out⟩, rfl⟩ ?_
      have B3 : Hid ((Instr.build 39 #[(0, .int .i64 T), (2, .int .i64 M), (3, .int .i64 2)]).run Tryz.prog x1 = .ok (.agg (szL T 0 M 2 0 0 0 0).toArray) x1) := build_szs3 T M 2 x1
      obtain ⟨x2, hx2⟩ : ∃ y, x1.alloc (.cells (szL 0 0 0 0 0 0 0 0).toArray 39) = y := ⟨_, rfl⟩
      have HX2 : Hid (Below x.heap.size x x2) := HX1.out.trans (by rw [← hx2]; exact (below_new x1 _).mono HX1.out.size)
      have B3' : Hid ((Instr.build 39 #[(0, .int .i64 T), (2, .int .i64 M), (3, .int .i64 2)]).run Tryz.prog x2 = .ok (.agg (szL T 0 M 2 0 0 0 0).toArray) x2) := build_szs3 T M 2 x2
      obtain ⟨y0, ST, hk, hbk⟩ := new_szs x1 T 0 M 2 0 0 0 0
      obtain ⟨Bk, hBk⟩ : ∃ b, x1.heap.size = b := ⟨_, rfl⟩
      rw [hx2, hBk] at ST
      rw [hBk] at hk
      have RK := Lib.hid hk
      have HKW : Hid (W.heap.size ≤ Bk) := by show _ ≤ _; rw [← hBk]; exact Nat.le_trans HX.out.size HX1.out.size
      have HBY : Hid (Below W.heap.size W y0) := HX.out.trans ((HX1.out.trans (hbk.mono HX1.out.size)).mono HX.out.size)
      have HST := Lib.hid ST
      clear hk hbk ST
      refine ⟨?_, ?_⟩
      · simp only [nth_zero, nth_succ]
        refine wpList_struct_run _ _ rfl rfl [(0, .int .i64 T), (2, .int .i64 M), (3, .int .i64 2)] _ rfl B3.out ?_
        refine wpList_nil ?_
        refine planPost_mk ⟨⟨x1, HX1.out⟩, rfl⟩ ?_
        rw [wpPlan_one]
        simp only [nth_zero, nth_succ]
        go_wp2_with fail
        try rw [hx2]
        refine planPost_mk ⟨⟨x2, HX2.out⟩, rfl⟩ ?_
        rw [wpPlan_leaf]
        simp only [List.drop_succ_cons, List.drop_zero]
        have ST := HST.out
        obtain ⟨y1, h1'⟩ : ∃ y, y0.setCell ⟨Bk, 1, none⟩ (.int .i64 P) = y := ⟨_, rfl⟩
        obtain ⟨y2, h2'⟩ : ∃ y, y1.setCell ⟨Bk, 4, none⟩ (.int .i64 (2 + rr)) = y := ⟨_, rfl⟩
        obtain ⟨y3, h3'⟩ : ∃ y, y2.setCell ⟨Bk, 5, none⟩ (.int .i64 (2 + rr + P)) = y := ⟨_, rfl⟩
        obtain ⟨y4, h4'⟩ : ∃ y, y3.setCell ⟨Bk, 6, none⟩ (.int .i64 (2 + rr + P + M)) = y := ⟨_, rfl⟩
        obtain ⟨y5, h5'⟩ : ∃ y, y4.setCell ⟨Bk, 7, none⟩ (.int .i64 (bb + aa)) = y := ⟨_, rfl⟩
        have k0 := RK.out
        have k1 : RowC y1 Bk 39 (szL T P M 2 0 0 0 0) := by rw [← h1']; exact k0.set 1 _
        have k2 : RowC y2 Bk 39 (szL T P M 2 (2 + rr) 0 0 0) := by rw [← h2']; exact k1.set 4 _
        have k3 : RowC y3 Bk 39 (szL T P M 2 (2 + rr) (2 + rr + P) 0 0) := by rw [← h3']; exact k2.set 5 _
        have k4 : RowC y4 Bk 39 (szL T P M 2 (2 + rr) (2 + rr + P) (2 + rr + P + M) 0) := by rw [← h4']; exact k3.set 6 _
        have k5 : RowC y5 Bk 39 (szL T P M 2 (2 + rr) (2 + rr + P) (2 + rr + P + M) (bb + aa)) := by rw [← h5']; exact k4.set 7 _
        have e1' : y0.grownBy y1 (some Bk) := by rw [← h1']; exact grownBy_cell y0 Bk 1 _
        have e2' : y1.grownBy y2 (some Bk) := by rw [← h2']; exact grownBy_cell y1 Bk 4 _
        have e3' : y2.grownBy y3 (some Bk) := by rw [← h3']; exact grownBy_cell y2 Bk 5 _
        have e4' : y3.grownBy y4 (some Bk) := by rw [← h4']; exact grownBy_cell y3 Bk 6 _
        have e5' : y4.grownBy y5 (some Bk) := by rw [← h5']; exact grownBy_cell y4 Bk 7 _
        have bw : ∀ y, y0.grownBy y (some Bk) → Below W.heap.size W y := fun y hg => HBY.out.grown hg HBY.out.size (fun j e => by cases e; exact HKW.out)
        have q1 := bw y1 e1'
        have q2 := bw y2 (e1'.trans e2')
        have q3 := bw y3 ((e1'.trans e2').trans e3')
        have q4 := bw y4 (((e1'.trans e2').trans e3').trans e4')
        have q5 := bw y5 ((((e1'.trans e2').trans e3').trans e4').trans e5')
        have a0 : y0.cell? ⟨Bk, 0, none⟩ = some (.int .i64 T) := k0.cell 0 _ rfl
        have a01 : y0.cell? ⟨Bk, 1, none⟩ = some (.int .i64 0) := k0.cell 1 _ rfl
        have a0' := k0.frozen 1
        have a1 : y1.cell? ⟨Bk, 3, none⟩ = some (.int .i64 2) := k1.cell 3 _ rfl
        have a11 : y1.cell? ⟨Bk, 4, none⟩ = some (.int .i64 0) := k1.cell 4 _ rfl
        have a1' := k1.frozen 4
        have a12 := (HC.out y1 q1).2.2.2.2
        have a2 : y2.cell? ⟨Bk, 4, none⟩ = some (.int .i64 (2 + rr)) := k2.cell 4 _ rfl
        have a21 : y2.cell? ⟨Bk, 1, none⟩ = some (.int .i64 P) := k2.cell 1 _ rfl
        have a22 : y2.cell? ⟨Bk, 5, none⟩ = some (.int .i64 0) := k2.cell 5 _ rfl
        have a2' := k2.frozen 5
        have a3 : y3.cell? ⟨Bk, 5, none⟩ = some (.int .i64 (2 + rr + P)) := k3.cell 5 _ rfl
        have a31 : y3.cell? ⟨Bk, 2, none⟩ = some (.int .i64 M) := k3.cell 2 _ rfl
        have a32 : y3.cell? ⟨Bk, 6, none⟩ = some (.int .i64 0) := k3.cell 6 _ rfl
        have a3' := k3.frozen 6
        have a4 := (HC.out y4 q4).1
        have a41 := (HC.out y4 q4).2.2.2.1
        have a42 : y4.cell? ⟨Bk, 7, none⟩ = some (.int .i64 0) := k4.cell 7 _ rfl
        have a4' := k4.frozen 7
        have l5 := load_szs k5
        obtain ⟨y6, ST6, hr6, hg6⟩ := store_szs (a := T) (b := P) (c := M) (d := 2) (e := 2 + rr) (f := 2 + rr + P) (h := 2 + rr + P + M) (i := bb + aa) (HRZ.out.below q5) rfl
        have LD6 := load_szs hr6
        have q6 : Below w.heap.size w y6 := (HB.out.trans (q5.mono HB.out.size)).grown hg6 (HB.out.trans (q5.mono HB.out.size)).size (fun j e => by cases e; exact HVW.out)
        have HQ6 := Lib.hid q6
        clear k0 k1 k2 k3 k4 k5 e1' e2' e3' e4' e5' bw q1 q2 q3 q4 q5 q6 hr6 hg6
        go_wp2_with fail
        go_at_call 45
        refine (HCN.out y0).mono ?_
        rintro e zz ⟨rfl, hz⟩
        obtain rfl := hz.symm
        clear hz
        go_wp2_with fail
        refine bodyPost_ret (results_cell rfl rfl LD6) rfl ⟨rfl, HQ6.out⟩
      · simp only [nth_zero, nth_succ]
        go_wp2_with fail
        try rw [hx2]
        refine planPost_mk ⟨⟨x2, HX2.out⟩, rfl⟩ ?_
        rw [wpPlan_one]
        simp only [nth_zero, nth_succ]
        refine wpList_struct_run _ _ rfl rfl [(0, .int .i64 T), (2, .int .i64 M), (3, .int .i64 2)] _ rfl B3'.out ?_
        refine wpList_nil ?_
        refine planPost_mk ⟨⟨x2, HX2.out⟩, rfl⟩ ?_
        rw [wpPlan_leaf]
        simp only [List.drop_succ_cons, List.drop_zero]
        have ST := HST.out
        obtain ⟨y1, h1'⟩ : ∃ y, y0.setCell ⟨Bk, 1, none⟩ (.int .i64 P) = y := ⟨_, rfl⟩
        obtain ⟨y2, h2'⟩ : ∃ y, y1.setCell ⟨Bk, 4, none⟩ (.int .i64 (2 + rr)) = y := ⟨_, rfl⟩
        obtain ⟨y3, h3'⟩ : ∃ y, y2.setCell ⟨Bk, 5, none⟩ (.int .i64 (2 + rr + P)) = y := ⟨_, rfl⟩
        obtain ⟨y4, h4'⟩ : ∃ y, y3.setCell ⟨Bk, 6, none⟩ (.int .i64 (2 + rr + P + M)) = y := ⟨_, rfl⟩
        obtain ⟨y5, h5'⟩ : ∃ y, y4.setCell ⟨Bk, 7, none⟩ (.int .i64 (bb + aa)) = y := ⟨_, rfl⟩
        have k0 := RK.out
        have k1 : RowC y1 Bk 39 (szL T P M 2 0 0 0 0) := by rw [← h1']; exact k0.set 1 _
        have k2 : RowC y2 Bk 39 (szL T P M 2 (2 + rr) 0 0 0) := by rw [← h2']; exact k1.set 4 _
        have k3 : RowC y3 Bk 39 (szL T P M 2 (2 + rr) (2 + rr + P) 0 0) := by rw [← h3']; exact k2.set 5 _
        have k4 : RowC y4 Bk 39 (szL T P M 2 (2 + rr) (2 + rr + P) (2 + rr + P + M) 0) := by rw [← h4']; exact k3.set 6 _
        have k5 : RowC y5 Bk 39 (szL T P M 2 (2 + rr) (2 + rr + P) (2 + rr + P + M) (bb + aa)) := by rw [← h5']; exact k4.set 7 _
        have e1' : y0.grownBy y1 (some Bk) := by rw [← h1']; exact grownBy_cell y0 Bk 1 _
        have e2' : y1.grownBy y2 (some Bk) := by rw [← h2']; exact grownBy_cell y1 Bk 4 _
        have e3' : y2.grownBy y3 (some Bk) := by rw [← h3']; exact grownBy_cell y2 Bk 5 _
        have e4' : y3.grownBy y4 (some Bk) := by rw [← h4']; exact grownBy_cell y3 Bk 6 _
        have e5' : y4.grownBy y5 (some Bk) := by rw [← h5']; exact grownBy_cell y4 Bk 7 _
        have bw : ∀ y, y0.grownBy y (some Bk) → Below W.heap.size W y := fun y hg => HBY.out.grown hg HBY.out.size (fun j e => by cases e; exact HKW.out)
        have q1 := bw y1 e1'
        have q2 := bw y2 (e1'.trans e2')
        have q3 := bw y3 ((e1'.trans e2').trans e3')
        have q4 := bw y4 (((e1'.trans e2').trans e3').trans e4')
        have q5 := bw y5 ((((e1'.trans e2').trans e3').trans e4').trans e5')
        have a0 : y0.cell? ⟨Bk, 0, none⟩ = some (.int .i64 T) := k0.cell 0 _ rfl
        have a01 : y0.cell? ⟨Bk, 1, none⟩ = some (.int .i64 0) := k0.cell 1 _ rfl
        have a0' := k0.frozen 1
        have a1 : y1.cell? ⟨Bk, 3, none⟩ = some (.int .i64 2) := k1.cell 3 _ rfl
        have a11 : y1.cell? ⟨Bk, 4, none⟩ = some (.int .i64 0) := k1.cell 4 _ rfl
        have a1' := k1.frozen 4
        have a12 := (HC.out y1 q1).2.2.2.2
        have a2 : y2.cell? ⟨Bk, 4, none⟩ = some (.int .i64 (2 + rr)) := k2.cell 4 _ rfl
        have a21 : y2.cell? ⟨Bk, 1, none⟩ = some (.int .i64 P) := k2.cell 1 _ rfl
        have a22 : y2.cell? ⟨Bk, 5, none⟩ = some (.int .i64 0) := k2.cell 5 _ rfl
        have a2' := k2.frozen 5
        have a3 : y3.cell? ⟨Bk, 5, none⟩ = some (.int .i64 (2 + rr + P)) := k3.cell 5 _ rfl
        have a31 : y3.cell? ⟨Bk, 2, none⟩ = some (.int .i64 M) := k3.cell 2 _ rfl
        have a32 : y3.cell? ⟨Bk, 6, none⟩ = some (.int .i64 0) := k3.cell 6 _ rfl
        have a3' := k3.frozen 6
        have a4 := (HC.out y4 q4).1
        have a41 := (HC.out y4 q4).2.2.2.1
        have a42 : y4.cell? ⟨Bk, 7, none⟩ = some (.int .i64 0) := k4.cell 7 _ rfl
        have a4' := k4.frozen 7
        have l5 := load_szs k5
        obtain ⟨y6, ST6, hr6, hg6⟩ := store_szs (a := T) (b := P) (c := M) (d := 2) (e := 2 + rr) (f := 2 + rr + P) (h := 2 + rr + P + M) (i := bb + aa) (HRZ.out.below q5) rfl
        have LD6 := load_szs hr6
        have q6 : Below w.heap.size w y6 := (HB.out.trans (q5.mono HB.out.size)).grown hg6 (HB.out.trans (q5.mono HB.out.size)).size (fun j e => by cases e; exact HVW.out)
        have HQ6 := Lib.hid q6
        clear k0 k1 k2 k3 k4 k5 e1' e2' e3' e4' e5' bw q1 q2 q3 q4 q5 q6 hr6 hg6
        go_wp2_with fail
        go_at_call 45
        refine (HCN.out y0).mono ?_
        rintro e zz ⟨rfl, hz⟩
        obtain rfl := hz.symm
        clear hz
        go_wp2_with fail
        refine bodyPost_ret (results_cell rfl rfl LD6) rfl ⟨rfl, HQ6.out⟩
    · simp only [nth_zero, nth_succ]
      obtain ⟨x1, hx1⟩ : ∃ y, X.alloc (.cells (szL 0 0 0 0 0 0 0 0).toArray 39) = y := ⟨_, rfl⟩
      have hrz : RowC x1 X.heap.size 39 (szL 0 0 0 0 0 0 0 0) := by rw [← hx1]; exact RowC.new X _ _
      have HX1 : Hid (Below x.heap.size x x1) := HXX.out.trans (by rw [← hx1]; exact (below_new X _).mono HXX.out.size)
      obtain ⟨Bk, hBk⟩ : ∃ b, X.heap.size = b := ⟨_, rfl⟩
      rw [hBk] at hrz
      have HKW : Hid (W.heap.size ≤ Bk) := by show _ ≤ _; rw [← hBk]; exact Nat.le_trans HX.out.size HXX.out.size
      have HRK := Lib.hid hrz
      clear hrz
      go_wp2_with fail
      try rw [hx1]
      refine planPost_mk ⟨⟨x1, HX1.out⟩, rfl⟩ ?_
      clear hx1
      rw [wpPlan_one]
      simp only [nth_zero, nth_succ]
      go_wp2_with fail
      go_at_call 44
      refine (HBT.out _).mono ?_
      rintro e x2 ⟨rfl, hbq⟩
      have HX2 : Hid (Below x.heap.size x x2) := HX1.out.trans (hbq.mono HX1.out.size)
      have B3 : Hid ((Instr.build 39 #[(0, .int .i64 T), (2, .int .i64 M), (3, .int .i64 2)]).run Tryz.prog x2 = .ok (.agg (szL T 0 M 2 0 0 0 0).toArray) x2) := build_szs3 T M 2 x2
      obtain ⟨y0, ST, hk, hgk⟩ := store_szs (a := T) (b := 0) (c := M) (d := 2) (e := 0) (f := 0) (h := 0) (i := 0) (HRK.out.below hbq) rfl
      have RK := Lib.hid hk
      have hb2 := HX.out.trans (HX2.out.mono HX.out.size)
      have HBY : Hid (Below W.heap.size W y0) := hb2.grown hgk hb2.size (fun j e => by cases e; exact HKW.out)
      have HST := Lib.hid ST
      clear hbq hk hgk hb2 ST
      go_wp2_with fail
      refine planPost_mk ⟨⟨x2, HX2.out⟩, rfl⟩ ?_
      rw [wpPlan_one]
      simp only [nth_zero, nth_succ]
      refine wpList_struct_run _ _ rfl rfl [(0, .int .i64 T), (2, .int .i64 M), (3, .int .i64 2)] _ rfl B3.out ?_
      refine wpList_nil ?_
      refine planPost_mk ⟨⟨x2, HX2.out⟩, rfl⟩ ?_
      rw [wpPlan_leaf]
      simp only [List.drop_succ_cons, List.drop_zero]
      have ST := HST.out
      obtain ⟨y1, h1'⟩ : ∃ y, y0.setCell ⟨Bk, 1, none⟩ (.int .i64 P) = y := ⟨_, rfl⟩
      obtain ⟨y2, h2'⟩ : ∃ y, y1.setCell ⟨Bk, 4, none⟩ (.int .i64 (2 + rr)) = y := ⟨_, rfl⟩
      obtain ⟨y3, h3'⟩ : ∃ y, y2.setCell ⟨Bk, 5, none⟩ (.int .i64 (2 + rr + P)) = y := ⟨_, rfl⟩
      obtain ⟨y4, h4'⟩ : ∃ y, y3.setCell ⟨Bk, 6, none⟩ (.int .i64 (2 + rr + P + M)) = y := ⟨_, rfl⟩
      obtain ⟨y5, h5'⟩ : ∃ y, y4.setCell ⟨Bk, 7, none⟩ (.int .i64 (bb + aa)) = y := ⟨_, rfl⟩
      have k0 := RK.out
      have k1 : RowC y1 Bk 39 (szL T P M 2 0 0 0 0) := by rw [← h1']; exact k0.set 1 _
      have k2 : RowC y2 Bk 39 (szL T P M 2 (2 + rr) 0 0 0) := by rw [← h2']; exact k1.set 4 _
      have k3 : RowC y3 Bk 39 (szL T P M 2 (2 + rr) (2 + rr + P) 0 0) := by rw [← h3']; exact k2.set 5 _
      have k4 : RowC y4 Bk 39 (szL T P M 2 (2 + rr) (2 + rr + P) (2 + rr + P + M) 0) := by rw [← h4']; exact k3.set 6 _
      have k5 : RowC y5 Bk 39 (szL T P M 2 (2 + rr) (2 + rr + P) (2 + rr + P + M) (bb + aa)) := by rw [← h5']; exact k4.set 7 _
      have e1' : y0.grownBy y1 (some Bk) := by rw [← h1']; exact grownBy_cell y0 Bk 1 _
      have e2' : y1.grownBy y2 (some Bk) := by rw [← h2']; exact grownBy_cell y1 Bk 4 _
      have e3' : y2.grownBy y3 (some Bk) := by rw [← h3']; exact grownBy_cell y2 Bk 5 _
      have e4' : y3.grownBy y4 (some Bk) := by rw [← h4']; exact grownBy_cell y3 Bk 6 _
      have e5' : y4.grownBy y5 (some Bk) := by rw [← h5']; exact grownBy_cell y4 Bk 7 _
      have bw : ∀ y, y0.grownBy y (some Bk) → Below W.heap.size W y := fun y hg => HBY.out.grown hg HBY.out.size (fun j e => by cases e; exact HKW.out)
      have q1 := bw y1 e1'
      have q2 := bw y2 (e1'.trans e2')
      have q3 := bw y3 ((e1'.trans e2').trans e3')
      have q4 := bw y4 (((e1'.trans e2').trans e3').trans e4')
      have q5 := bw y5 ((((e1'.trans e2').trans e3').trans e4').trans e5')
      have a0 : y0.cell? ⟨Bk, 0, none⟩ = some (.int .i64 T) := k0.cell 0 _ rfl
      have a01 : y0.cell? ⟨Bk, 1, none⟩ = some (.int .i64 0) := k0.cell 1 _ rfl
      have a0' := k0.frozen 1
      have a1 : y1.cell? ⟨Bk, 3, none⟩ = some (.int .i64 2) := k1.cell 3 _ rfl
      have a11 : y1.cell? ⟨Bk, 4, none⟩ = some (.int .i64 0) := k1.cell 4 _ rfl
      have a1' := k1.frozen 4
      have a12 := (HC.out y1 q1).2.2.2.2
      have a2 : y2.cell? ⟨Bk, 4, none⟩ = some (.int .i64 (2 + rr)) := k2.cell 4 _ rfl
      have a21 : y2.cell? ⟨Bk, 1, none⟩ = some (.int .i64 P) := k2.cell 1 _ rfl
      have a22 : y2.cell? ⟨Bk, 5, none⟩ = some (.int .i64 0) := k2.cell 5 _ rfl
      have a2' := k2.frozen 5
      have a3 : y3.cell? ⟨Bk, 5, none⟩ = some (.int .i64 (2 + rr + P)) := k3.cell 5 _ rfl
      have a31 : y3.cell? ⟨Bk, 2, none⟩ = some (.int .i64 M) := k3.cell 2 _ rfl
      have a32 : y3.cell? ⟨Bk, 6, none⟩ = some (.int .i64 0) := k3.cell 6 _ rfl
      have a3' := k3.frozen 6
      have a4 := (HC.out y4 q4).1
      have a41 := (HC.out y4 q4).2.2.2.1
      have a42 : y4.cell? ⟨Bk, 7, none⟩ = some (.int .i64 0) := k4.cell 7 _ rfl
      have a4' := k4.frozen 7
      have l5 := load_szs k5
      obtain ⟨y6, ST6, hr6, hg6⟩ := store_szs (a := T) (b := P) (c := M) (d := 2) (e := 2 + rr) (f := 2 + rr + P) (h := 2 + rr + P + M) (i := bb + aa) (HRZ.out.below q5) rfl
      have LD6 := load_szs hr6
      have q6 : Below w.heap.size w y6 := (HB.out.trans (q5.mono HB.out.size)).grown hg6 (HB.out.trans (q5.mono HB.out.size)).size (fun j e => by cases e; exact HVW.out)
      have HQ6 := Lib.hid q6
      clear k0 k1 k2 k3 k4 k5 e1' e2' e3' e4' e5' bw q1 q2 q3 q4 q5 q6 hr6 hg6
      go_wp2_with fail
      go_at_call 45
      refine (HCN.out y0).mono ?_
      rintro e zz ⟨rfl, hz⟩
      obtain rfl := hz.symm
      clear hz
      go_wp2_with fail
      refine bodyPost_ret (results_cell rfl rfl LD6) rfl ⟨rfl, HQ6.out⟩
  · have hgd : decide g.good = false := by simpa using hg
    have e1 : g.szl = szL 0 0 0 0 0 0 0 0 := by unfold Geo.szl; rw [if_neg hg]
    rw [hgd] at HG
    rw [e1]
    clear hg hgd e1
    go_enter Tryz.func15, Tryz.ntmps15
    go_wp2_with fail
    go_at_call 35
    refine (HG.out _).mono ?_
    rintro e x ⟨rfl, hbx⟩
    obtain ⟨y6, ST6, hr6, hg6⟩ := store_szs (a := 0) (b := 0) (c := 0) (d := 0) (e := 0) (f := 0) (h := 0) (i := 0) (HRZ.out.below hbx) rfl
    have LD6 := load_szs hr6
    have hb2 := HB.out.trans (hbx.mono HB.out.size)
    have HQ6 : Hid (Below w.heap.size w y6) := hb2.grown hg6 hb2.size (fun j e => by cases e; exact HVW.out)
    clear hbx hr6 hg6 hb2 L0
    go_wp2_with fail
    refine bodyPost_ret (results_cell rfl rfl LD6) rfl ⟨rfl, HQ6.out⟩
end
end Go.Proofs.YtbdfllamhcodjaaGreat

/- The document's Slot and Area; what the developers' geometry promises. -/
namespace Go.Proofs.YtbdfllamhcodjaaGreat
open Go.RowKit Go.Shelf
set_option linter.unusedVariables false
attribute [-simp] Tryz.isAgg39 Tryz.zeroValue39
attribute [-go_sem] loadVar storeVar
attribute [local go_sem] loadVar_openG storeVar_openG zero_szs build_szs0

section
set_option maxRecDepth 100000
set_option maxHeartbeats 4000000
theorem Geo.szl_eq (g : Geo) : ∃ a b c d e f h i, g.szl = szL a b c d e f h i ∧ c = (if g.good then g.slots else 0) ∧ (g.good → f = 2 + g.r + g.pgs) ∧ (a = g.oB ∧ b = g.oP ∧ d = g.oR ∧ e = g.oH ∧ h = g.oF ∧ i = g.oW) := by
  unfold Geo.szl Geo.oB Geo.oP Geo.oR Geo.oH Geo.oF Geo.oW
  by_cases hg : g.good
  · simp only [if_pos hg]
    exact ⟨_, _, _, _, _, _, _, _, rfl, rfl, fun _ => rfl, rfl, rfl, rfl, rfl, rfl, rfl⟩
  · simp only [if_neg hg]
    exact ⟨_, _, _, _, _, _, _, _, rfl, rfl, fun h => absurd h hg, rfl, rfl, rfl, rfl, rfl, rfl⟩
end
/-- All numbers of a geometry are numbers. -/
def Geo.In (g : Geo) : Prop := ∀ n ∈ [g.b, g.s, g.y, g.a, g.r], -9223372036854775808 ≤ n ∧ n ≤ 9223372036854775807
end Go.Proofs.YtbdfllamhcodjaaGreat

/- The developers' geometry: within, the slots, the bytes, Good, Bytes, Pages. -/
namespace Go.Proofs.YtbdfllamhcodjaaGreat
open Go.RowKit Go.Shelf
set_option linter.unusedVariables false
attribute [-go_sem] loadVar storeVar
attribute [local go_sem] loadVar_openG storeVar_openG

section
set_option maxRecDepth 100000
set_option maxHeartbeats 4000000
set_option maxRecDepth 100000 in
theorem gmWithin (n lo hi : Int) (w : World) : Calls Tryz.prog 133 #[.int .i64 n, .int .i64 lo, .int .i64 hi] w fun e w' => e = .returned (.bool (decide (lo ≤ n ∧ n ≤ hi))) ∧ w' = w := by
  obtain ⟨z, hz⟩ : ∃ z, decide (lo ≤ n ∧ n ≤ hi) = z := ⟨_, rfl⟩
  by_cases h1 : lo ≤ n
  · have g1 : decide (lo ≤ n) = true := by simpa using h1
    have g1' : decide (n ≥ lo) = true := g1
    have g2 : decide (n ≤ hi) = z := by rw [← hz]; simp [h1]
    rw [hz]
    clear hz
    go_enter Tryz.func133, Tryz.ntmps133
    go_wp2_with fail
    go_ret
    first | exact ⟨rfl, rfl⟩ | exact ⟨by rw [← g2], rfl⟩ | exact ⟨by rw [g2], rfl⟩
  · have g1 : decide (lo ≤ n) = false := by simpa using h1
    have g1' : decide (n ≥ lo) = false := g1
    have hzz : z = false := by rw [← hz]; simp [h1]
    rw [hz, hzz]
    clear hz hzz
    go_enter Tryz.func133, Tryz.ntmps133
    go_wp2_with fail
    go_ret
    exact ⟨rfl, rfl⟩
set_option maxRecDepth 100000 in
theorem gmSlots (g : Geo) (hs : g.shape) (w : World) : Calls Tryz.prog 132 #[.agg g.v] w fun e w' => e = .returned (.int .i64 g.slots) ∧ Below w.heap.size w w' := by
  obtain ⟨b1, b2, b3, b4, b5, b6⟩ := Geo.bounds hs
  have HBT : Hid (g.slots = g.s * g.y) := rfl
  obtain ⟨W, hW⟩ : ∃ W, w.alloc (.cells g.v 23) = W := ⟨_, rfl⟩
  have r : RowC W w.heap.size 23 g.cs := by rw [← hW]; exact RowC.new w _ _
  have HB : Hid (Below w.heap.size w W) := by show Below _ _ _; rw [← hW]; exact below_new w _
  have c1 := r.cell 1 _ rfl
  have c2 := r.cell 2 _ rfl
  obtain ⟨h1, h2, h3, h4, h5, h6, h7, h8⟩ := hs
  have m1 : 1 ≤ g.s * g.y := b1
  have m2 : g.s * g.y ≤ 32 := b2
  obtain ⟨s, hs⟩ : ∃ n, g.s = n := ⟨_, rfl⟩
  obtain ⟨y, hy⟩ : ∃ n, g.y = n := ⟨_, rfl⟩
  obtain ⟨m, hm⟩ : ∃ n, s * y = n := ⟨_, rfl⟩
  rw [hs, hy] at m1 m2 HBT
  rw [hs] at c1 h3 h4
  rw [hy] at c2 h5 h6
  rw [hm] at m1 m2 HBT
  clear r b1 b2 b3 b4 b5 b6 h7 h8 h1 h2 hs hy
  go_enter Tryz.func132, Tryz.ntmps132
  go_wp2_with fail
  go_ret
  rw [HBT.out]
  exact ⟨rfl, HB.out⟩
set_option maxRecDepth 100000 in
theorem gmState (g : Geo) (hs : g.shape) (w : World) : Calls Tryz.prog 95 #[.agg g.v] w fun e w' => e = .returned (.int .i64 g.bts) ∧ Below w.heap.size w w' := by
  have SC := fun x => gmSlots g hs x
  obtain ⟨b1, b2, b3, b4, b5, b6⟩ := Geo.bounds hs
  have HBT : Hid (g.bts = 10 + g.slots + g.b + 8 * (4 + (g.b + 7) / 8 + g.b)) := rfl
  obtain ⟨W, hW⟩ : ∃ W, w.alloc (.cells g.v 23) = W := ⟨_, rfl⟩
  have r : RowC W w.heap.size 23 g.cs := by rw [← hW]; exact RowC.new w _ _
  have HB : Hid (Below w.heap.size w W) := by show Below _ _ _; rw [← hW]; exact below_new w _
  obtain ⟨B, hB⟩ : ∃ b, w.heap.size = b := ⟨_, rfl⟩
  rw [hB] at r
  have LG : ∀ x : Ext W, (loadVar 23 ⟨B, 0, none⟩).run Tryz.prog x.1 = .ok (.agg g.v) x.1 := fun x => load_geo (r.below x.2)
  obtain ⟨h1, h2, h3, h4, h5, h6, h7, h8⟩ := hs
  obtain ⟨b, hb⟩ : ∃ n, g.b = n := ⟨_, rfl⟩
  obtain ⟨m, hm⟩ : ∃ n, g.slots = n := ⟨_, rfl⟩
  obtain ⟨k, hk⟩ : ∃ n, (b + 7).tdiv 8 = n := ⟨_, rfl⟩
  have c0 : ∀ x : Ext W, x.1.cell? ⟨B, 0, none⟩ = some (.int .i64 b) := fun x => by rw [← hb]; exact (r.below x.2).cell 0 _ rfl
  have d0 : W.cell? ⟨B, 0, none⟩ = some (.int .i64 b) := by rw [← hb]; exact r.cell 0 _ rfl
  rw [hb] at h1 h2
  rw [hb, hm] at HBT
  rw [hm] at b1 b2
  have C1 : Hid (∀ x : Ext W, Calls Tryz.prog 132 #[.agg g.v] x.1 fun e w'' => e = .returned (.int .i64 m) ∧ ∃ y : Ext W, w'' = y.1) := fun x => calls_ext x (by rw [← hm]; exact SC x.1)
  have hk2 : (b + 7) / 8 = k := by rw [← hk, Int.tdiv_eq_ediv_of_nonneg (by omega)]
  have hk3 : 1 ≤ k ∧ k ≤ 8 := by omega
  have HK2 := Lib.hid hk2
  obtain ⟨k1, k2⟩ := hk3
  clear r b3 b4 b5 b6 h3 h4 h5 h6 h7 h8 hb hm hk2 SC
  go_enter Tryz.func95, Tryz.ntmps95
  go_wp2_with fail
  refine region_ext (by kernel_rfl) (by kernel_rfl) ?_
  repeat (go_big_quiet_step (with_reducible (first | exact C1.out _)))
  refine wpQuiet_nil ?_
  intro x
  have HX : Hid (Below w.heap.size w x.1) := HB.out.trans (x.2.mono HB.out.size)
  clear LG c0 d0
  go_wp2_with fail
  go_ret
  refine ⟨?_, HX.out⟩
  rw [HBT.out, HK2.out]
  first
    | rfl
    | exact congrArg (fun x => Ending.returned (Value.int .i64 x)) (by omega)
set_option maxRecDepth 100000 in
theorem gmGood (g : Geo) (hi : g.In) (w : World) : Calls Tryz.prog 93 #[.agg g.v] w fun e w' => e = .returned (.bool (decide g.good)) ∧ Below w.heap.size w w' := by
  obtain ⟨W, hW⟩ : ∃ W, w.alloc (.cells g.v 23) = W := ⟨_, rfl⟩
  have r : RowC W w.heap.size 23 g.cs := by rw [← hW]; exact RowC.new w _ _
  have HB : Hid (Below w.heap.size w W) := by show Below _ _ _; rw [← hW]; exact below_new w _
  obtain ⟨B, hB⟩ : ∃ b, w.heap.size = b := ⟨_, rfl⟩
  rw [hB] at r
  have LG : ∀ x : Ext W, (loadVar 23 ⟨B, 0, none⟩).run Tryz.prog x.1 = .ok (.agg g.v) x.1 := fun x => load_geo (r.below x.2)
  have c0 : ∀ x : Ext W, x.1.cell? ⟨B, 0, none⟩ = some (.int .i64 g.b) := fun x => (r.below x.2).cell 0 _ rfl
  have c1 : ∀ x : Ext W, x.1.cell? ⟨B, 1, none⟩ = some (.int .i64 g.s) := fun x => (r.below x.2).cell 1 _ rfl
  have c2 : ∀ x : Ext W, x.1.cell? ⟨B, 2, none⟩ = some (.int .i64 g.y) := fun x => (r.below x.2).cell 2 _ rfl
  have c3 : ∀ x : Ext W, x.1.cell? ⟨B, 3, none⟩ = some (.int .i64 g.a) := fun x => (r.below x.2).cell 3 _ rfl
  have c4 : ∀ x : Ext W, x.1.cell? ⟨B, 4, none⟩ = some (.int .i64 g.r) := fun x => (r.below x.2).cell 4 _ rfl
  have CW : ∀ (n lo hi : Int) (z : Bool), decide (lo ≤ n ∧ n ≤ hi) = z → Hid (∀ x : Ext W, Calls Tryz.prog 133 #[.int .i64 n, .int .i64 lo, .int .i64 hi] x.1 fun e w'' => e = .returned (.bool z) ∧ ∃ y : Ext W, w'' = y.1) := fun n lo hi z hz x => by
    rw [← hz]
    exact (gmWithin n lo hi x.1).mono fun e w'' ⟨h1, h2⟩ => ⟨h1, x, h2⟩
  obtain ⟨z1, e1⟩ : ∃ z, decide (1 ≤ g.b ∧ g.b ≤ 64) = z := ⟨_, rfl⟩
  obtain ⟨z2, e2⟩ : ∃ z, decide (1 ≤ g.s ∧ g.s ≤ 8) = z := ⟨_, rfl⟩
  obtain ⟨z3, e3⟩ : ∃ z, decide (1 ≤ g.y ∧ g.y ≤ 4) = z := ⟨_, rfl⟩
  obtain ⟨z4, e4⟩ : ∃ z, decide (0 ≤ g.a ∧ g.a ≤ 200) = z := ⟨_, rfl⟩
  have C1 := CW _ _ _ _ e1
  have C2 := CW _ _ _ _ e2
  have C3 := CW _ _ _ _ e3
  have C4 := CW _ _ _ _ e4
  by_cases hs : g.shape
  · obtain ⟨b1, b2, b3, b4, b5, b6⟩ := Geo.bounds hs
    obtain ⟨h1, h2, h3, h4, h5, h6, h7, h8⟩ := hs
    obtain rfl : z1 = true := by rw [← e1]; exact decide_eq_true ⟨h1, h2⟩
    obtain rfl : z2 = true := by rw [← e2]; exact decide_eq_true ⟨h3, h4⟩
    obtain rfl : z3 = true := by rw [← e3]; exact decide_eq_true ⟨h5, h6⟩
    obtain rfl : z4 = true := by rw [← e4]; exact decide_eq_true ⟨h7, h8⟩
    obtain ⟨z5, e5⟩ : ∃ z, decide (g.pgs + 2 ≤ g.r ∧ g.r ≤ 256) = z := ⟨_, rfl⟩
    have C5 := CW _ _ _ _ e5
    have C6 : Hid (∀ x : Ext W, Calls Tryz.prog 95 #[.agg g.v] x.1 fun e w'' => e = .returned (.int .i64 g.bts) ∧ ∃ y : Ext W, w'' = y.1) := fun x => calls_ext x (gmState g ⟨h1, h2, h3, h4, h5, h6, h7, h8⟩ x.1)
    have C7 : Hid (∀ x : Ext W, Calls Tryz.prog 92 #[.int .i64 g.bts] x.1 fun e w'' => e = .returned (.int .i64 g.pgs) ∧ ∃ y : Ext W, w'' = y.1) := fun x => (pgCount g.bts x.1 (by omega) (by omega)).mono fun e w'' ⟨h1, h2⟩ => ⟨h1, x, h2⟩
    have hg : Hid (decide g.good = z5) := by
      show _ = _
      rw [← e5, decide_eq_decide]
      exact ⟨fun h => h.2, fun h => ⟨⟨h1, h2, h3, h4, h5, h6, h7, h8⟩, h⟩⟩
    obtain ⟨P, hP⟩ : ∃ n, g.pgs = n := ⟨_, rfl⟩
    obtain ⟨T, hT⟩ : ∃ n, g.bts = n := ⟨_, rfl⟩
    obtain ⟨R, hR⟩ : ∃ n, g.r = n := ⟨_, rfl⟩
    rw [hP, hT] at C7
    rw [hT] at C6
    rw [hP, hR] at C5
    rw [hR] at c4
    rw [hP] at b5 b6
    clear r b1 b2 b3 b4 hP hT hR e1 e2 e3 e4 e5 CW hi h1 h2 h3 h4 h5 h6 h7 h8
    go_enter Tryz.func93, Tryz.ntmps93
    go_wp2_with fail
    refine region_ext (by kernel_rfl) (by kernel_rfl) ?_
    repeat (go_big_quiet_step (with_reducible (first | exact C1.out _ | exact C2.out _ | exact C3.out _ | exact C4.out _ | exact C5.out _ | exact C6.out _ | exact C7.out _)))
    refine wpQuiet_nil ?_
    intro x
    have HX : Hid (Below w.heap.size w x.1) := HB.out.trans (x.2.mono HB.out.size)
    clear LG c0 c1 c2 c3 c4
    go_wp2_with fail
    go_ret
    rw [hg.out]
    exact ⟨rfl, HX.out⟩
  · have hg : Hid (decide g.good = false) := decide_eq_false (fun h => hs h.1)
    have hc : z1 = false ∨ (z1 = true ∧ z2 = false) ∨ (z1 = true ∧ z2 = true ∧ z3 = false) ∨ (z1 = true ∧ z2 = true ∧ z3 = true ∧ z4 = false) := by
      cases z1 with
      | false => exact .inl rfl
      | true =>
        cases z2 with
        | false => exact .inr (.inl ⟨rfl, rfl⟩)
        | true =>
          cases z3 with
          | false => exact .inr (.inr (.inl ⟨rfl, rfl, rfl⟩))
          | true =>
            cases z4 with
            | false => exact .inr (.inr (.inr ⟨rfl, rfl, rfl, rfl⟩))
            | true =>
              have a1 := of_decide_eq_true e1
              have a2 := of_decide_eq_true e2
              have a3 := of_decide_eq_true e3
              have a4 := of_decide_eq_true e4
              exact absurd ⟨a1.1, a1.2, a2.1, a2.2, a3.1, a3.2, a4⟩ hs
    clear e1 e2 e3 e4 CW hi hs r
    rcases hc with rfl | ⟨rfl, rfl⟩ | ⟨rfl, rfl, rfl⟩ | ⟨rfl, rfl, rfl, rfl⟩
    all_goals
      go_enter Tryz.func93, Tryz.ntmps93
      go_wp2_with fail
      refine region_ext (by kernel_rfl) (by kernel_rfl) ?_
      repeat (go_big_quiet_step (with_reducible (first | exact C1.out _ | exact C2.out _ | exact C3.out _ | exact C4.out _)))
      refine wpQuiet_nil ?_
      intro x
      have HX : Hid (Below w.heap.size w x.1) := HB.out.trans (x.2.mono HB.out.size)
      clear LG c0 c1 c2 c3 c4
      go_wp2_with fail
      go_ret
      rw [hg.out]
      exact ⟨rfl, HX.out⟩
set_option maxRecDepth 100000 in
theorem gmBytes (g : Geo) (hi : g.In) (w : World) : Calls Tryz.prog 47 #[.agg g.v] w fun e w' => e = .returned (.int .i64 g.oB) ∧ Below w.heap.size w w' := by
  obtain ⟨W, hW⟩ : ∃ W, w.alloc (.cells g.v 23) = W := ⟨_, rfl⟩
  have r : RowC W w.heap.size 23 g.cs := by rw [← hW]; exact RowC.new w _ _
  have HB : Hid (Below w.heap.size w W) := by show Below _ _ _; rw [← hW]; exact below_new w _
  obtain ⟨B, hB⟩ : ∃ b, w.heap.size = b := ⟨_, rfl⟩
  rw [hB] at r
  have HR := Lib.hid r
  have HG := Lib.hid (gmGood g hi W)
  have L0 := load_geo r
  clear r hi
  by_cases hg : g.good
  · have HS := Lib.hid (gmState g hg.1)
    have hv : Hid (g.oB = g.bts) := if_pos hg
    rw [decide_eq_true hg] at HG
    clear hg
    go_enter Tryz.func47, Tryz.ntmps47
    go_wp2_with fail
    refine HG.out.mono ?_
    rintro e x ⟨rfl, hb⟩
    have L1 := load_geo (HR.out.below hb)
    have HBX : Hid (Below w.heap.size w x) := HB.out.trans (hb.mono HB.out.size)
    clear hb L0
    go_wp2_with fail
    refine (HS.out _).mono ?_
    rintro e y ⟨rfl, hb⟩
    have HBY : Hid (Below w.heap.size w y) := HBX.out.trans (hb.mono HBX.out.size)
    clear hb L1
    go_wp2_with fail
    go_ret
    rw [hv.out]
    exact ⟨rfl, HBY.out⟩
  · have hv : Hid (g.oB = 0) := if_neg hg
    rw [decide_eq_false hg] at HG
    clear hg
    go_enter Tryz.func47, Tryz.ntmps47
    go_wp2_with fail
    refine HG.out.mono ?_
    rintro e x ⟨rfl, hb⟩
    have HBX : Hid (Below w.heap.size w x) := HB.out.trans (hb.mono HB.out.size)
    clear hb L0
    go_wp2_with fail
    go_ret
    rw [hv.out]
    exact ⟨rfl, HBX.out⟩
theorem Geo.oP_cnt (g : Geo) : cnt g.oB = g.oP := by
  unfold Geo.oB Geo.oP
  by_cases hg : g.good
  · rw [if_pos hg, if_pos hg]; rfl
  · rw [if_neg hg, if_neg hg]; rfl
theorem Geo.oB_bd (g : Geo) : 0 ≤ g.oB ∧ g.oB ≤ 714 := by
  unfold Geo.oB
  by_cases hg : g.good
  · rw [if_pos hg]
    obtain ⟨b1, b2, b3, b4, b5, b6⟩ := Geo.bounds hg.1
    omega
  · rw [if_neg hg]; omega
set_option maxRecDepth 100000 in
theorem gmPages (g : Geo) (hi : g.In) (w : World) : Calls Tryz.prog 39 #[.agg g.v] w fun e w' => e = .returned (.int .i64 g.oP) ∧ Below w.heap.size w w' := by
  obtain ⟨W, hW⟩ : ∃ W, w.alloc (.cells g.v 23) = W := ⟨_, rfl⟩
  have r : RowC W w.heap.size 23 g.cs := by rw [← hW]; exact RowC.new w _ _
  have HB : Hid (Below w.heap.size w W) := by show Below _ _ _; rw [← hW]; exact below_new w _
  obtain ⟨B, hB⟩ : ∃ b, w.heap.size = b := ⟨_, rfl⟩
  rw [hB] at r
  have L0 := load_geo r
  have HG := Lib.hid (gmBytes g hi W)
  have HV := Lib.hid g.oP_cnt
  have hbd := g.oB_bd
  clear r hi
  go_enter Tryz.func39, Tryz.ntmps39
  go_wp2_with fail
  refine HG.out.mono ?_
  rintro e x ⟨rfl, hb⟩
  have HBX : Hid (Below w.heap.size w x) := HB.out.trans (hb.mono HB.out.size)
  clear hb L0
  go_wp2_with fail
  refine (pgCount _ _ (by omega) (by omega)).mono ?_
  rintro e y ⟨rfl, hy⟩
  obtain rfl := hy.symm
  rw [HV.out]
  clear hy hbd
  go_wp2_with fail
  go_ret
  exact ⟨rfl, HBX.out⟩
end
end Go.Proofs.YtbdfllamhcodjaaGreat

/- The developers' range function over the parts of a disk: its contract. -/
namespace Go.Proofs.YtbdfllamhcodjaaGreat
open Go.RowKit Go.Shelf
set_option linter.unusedVariables false
attribute [-go_sem] loadVar storeVar
attribute [local go_sem] loadVar_openG storeVar_openG
attribute [local go_sem] Oper.semAt_some

/-- One of some numbers. -/
def ctAt (cs : List Int) (k : Nat) : Int := cs[k]?.getD 0
/-- Numbers one behind the other. -/
def sumTo (cs : List Int) (k : Nat) : Int := (cs.take k).sum
theorem sumTo_succ (cs : List Int) {k : Nat} (h : k < cs.length) : sumTo cs (k + 1) = sumTo cs k + ctAt cs k := by
  unfold sumTo
  unfold ctAt
  rw [List.take_succ_eq_append_getElem h, List.getElem?_eq_getElem h, List.sum_append]
  simp
theorem sumTo_bd (cs : List Int) (h : ∀ k : Nat, 0 ≤ ctAt cs k ∧ ctAt cs k ≤ 1000) : ∀ k, 0 ≤ sumTo cs k ∧ sumTo cs k ≤ 1000 * k
  | 0 => by simp [sumTo]
  | k + 1 => by
    have := sumTo_bd cs h k
    by_cases hk : k < cs.length
    · rw [sumTo_succ cs hk]
      have := h k
      omega
    · have e : sumTo cs (k + 1) = sumTo cs k := by unfold sumTo; rw [List.take_of_length_le (by omega), List.take_of_length_le (by omega)]
      rw [e]
      omega
/-- A part: its number, its first sector, how many. -/
def encSp (cs : List Int) {m : Nat} (x : Fin m) : Array Value := #[.int .i64 (x.1 : Int), .agg #[.int .i64 (sumTo cs x.1), .int .i64 (ctAt cs x.1)]]
/-- Numbers of sectors that may be. -/
structure Cnts (cs : List Int) : Prop where
  len : cs.length ≤ 4
  bd : ∀ k : Nat, 0 ≤ ctAt cs k ∧ ctAt cs k ≤ 1000
/-- The parts, in memory. -/
structure LaidR (W : World) (Bs : Nat) (cs : List Int) (a : Option Addr) (b : Nat) : Prop where
  box : Boxed W Bs 209 (.slice a cs.length cs.length)
  lt : Bs < W.heap.size
  blt : b < W.heap.size
  row : cs.length = 0 ∨ (a = some ⟨b, 0, none⟩ ∧ ∀ j, j < cs.length → W.cell? ⟨b, 0 + j, none⟩ = some (.int .i64 (ctAt cs j)))
theorem LaidR.below {W W' : World} {Bs b : Nat} {cs : List Int} {a : Option Addr} (h : LaidR W Bs cs a b) (hb : Below W.heap.size W W') : LaidR W' Bs cs a b :=
  ⟨(hb.block Bs h.lt).trans h.box, Nat.lt_of_lt_of_le h.lt hb.size, Nat.lt_of_lt_of_le h.blt hb.size, h.row.imp id fun ⟨e, h2⟩ => ⟨e, fun j hj => (hb.cell (p := ⟨b, 0 + j, none⟩) h.blt).trans (h2 j hj)⟩⟩

section
set_option maxRecDepth 100000
set_option maxHeartbeats 2000000
set_option maxRecDepth 100000 in
theorem build_span (f c : Int) (w : World) : (Instr.build 186 #[(0, .int .i64 f), (1, .int .i64 c)]).run Tryz.prog w = .ok (.agg #[.int .i64 f, .int .i64 c]) w := by kernel_rfl
set_option maxRecDepth 100000 in
theorem laid_in (F : Fence) (n : Nat) (hf : F.fn 131) (hro : F.round = none) (a : Option Addr) (len cap : Nat) (w : World) :
    CallsIn F n Tryz.prog 131 #[.slice a len cap] w fun e w' => e = .returned (.func (.func 145) #[] #[.pointer (some ⟨w.heap.size, 0, none⟩)]) ∧ w' = w.alloc (.cells #[.slice a len cap] 209) := by
  refine callsIn_of_wp Tryz.func131 rfl hf ?_ hro
  simp only [Tryz.ntmps131, List.size_toArray, List.length_cons, List.length_nil, Nat.reduceAdd, Nat.reduceSub, Array.replicate_succ, Array.replicate_zero, List.push_toArray, List.append_toArray, List.nil_append, List.cons_append]
  gi_wp2
  go_ret
  exact ⟨rfl, rfl⟩
attribute [local go_sem] build_span
set_option maxRecDepth 100000 in
theorem laid1_in (n : Nat) (hn : 1 ≤ n) (l Bs b : Nat) (cs : List Int) (a : Option Addr) (hcs : Cnts cs)
    (J Jx : List (Fin cs.length) → World → Prop)
    (hY : ∀ pre x W, J pre W → pre.length < cs.length → YieldAt Fence.wide (n - 1) Tryz.prog l (encSp cs x) W fun e W' =>
      (e = .returned (.bool true) ∧ J (pre ++ [x]) W' ∧ KpC (fun k => k = Bs ∨ k = b) W W') ∨ (e = .returned (.bool false) ∧ Jx (pre ++ [x]) W'))
    (W : World) (hL : LaidR W Bs cs a b) (h0 : J [] W) :
    CallsIn Fence.wide n Tryz.prog 145 #[.func (.yield l) #[] #[], .pointer (some ⟨Bs, 0, none⟩)] W fun e W' => (∃ v, e = .returned v) ∧
      ((∃ ys, ys = List.finRange cs.length ∧ J ys W') ∨ (∃ pre, (∃ k, k ≤ cs.length ∧ pre = upto cs.length k) ∧ Jx pre W')) := by
  refine callsIn_of_wp Tryz.func145 rfl trivial ?_ rfl
  simp only [Tryz.ntmps145, List.size_toArray, List.length_cons, List.length_nil, Nat.reduceAdd, Nat.reduceSub, Array.replicate_succ, Array.replicate_zero, List.push_toArray, List.append_toArray, List.nil_append, List.cons_append]
  have c0 := hL.box.cell
  have HL := Lib.hid hL
  have HCS := Lib.hid hcs
  obtain ⟨m, hm⟩ : ∃ m, cs.length = m := ⟨_, rfl⟩
  have HM := Lib.hid hm
  have hmx : m ≤ 4 := by rw [← hm]; exact hcs.len
  rw [hm] at c0
  clear hL hcs hm
  gi_wp2
  gi_loopw [3, 8] (fun f i wr => ∃ k : Nat, k ≤ m ∧ i = .int .i64 k ∧ f = .int .i64 (sumTo cs k) ∧ J (upto cs.length k) wr ∧ Hid (KpC (fun k => k = Bs ∨ k = b) W wr)) (fun f i _ => m - (intOf i).toNat)
  case atStart => exact ⟨0, Nat.zero_le _, rfl, rfl, h0, KpC.refl _ _⟩
  case round =>
    obtain ⟨k, hk, rfl, rfl, hJs, HK⟩ := hrel
    by_cases hlt : k < m
    · have hlt' : k < cs.length := by rw [HM.out]; exact hlt
      obtain ⟨rfl, hc⟩ : a = some ⟨b, 0, none⟩ ∧ ∀ j, j < cs.length → W.cell? ⟨b, 0 + j, none⟩ = some (.int .i64 (ctAt cs j)) := by
        rcases HL.out.row with h | h
        · omega
        · exact h
      have c2 : wr.cell? ⟨b, k, none⟩ = some (.int .i64 (ctAt cs k)) := by have := (HK.out.cell (p := ⟨b, 0 + k, none⟩) (.inr rfl)).trans (hc k hlt'); rwa [Nat.zero_add] at this
      obtain ⟨fn, tmps, assign, body, hy, hR⟩ := hY _ ⟨k, hlt'⟩ wr hJs (by rw [upto_length _ k (by omega)]; exact hlt')
      unfold encSp at hy
      dsimp only at hy
      have HSU := Lib.hid (sumTo_succ cs hlt')
      obtain ⟨s1, s2⟩ := sumTo_bd cs HCS.out.bd k
      obtain ⟨q1, q2⟩ := HCS.out.bd k
      obtain ⟨y, hY'⟩ : ∃ y, ctAt cs k = y := ⟨_, rfl⟩
      obtain ⟨s, hS⟩ : ∃ y, sumTo cs k = y := ⟨_, rfl⟩
      rw [hY'] at c2 hy q1 q2 HSU
      rw [hS] at hy s1 s2 HSU ⊢
      have hkm : (k : Int) < (m : Int) := by omega
      have s3 : s ≤ 4000 := by omega
      clear hc hY' hS
      gi_wp2
      refine hR.mono ?_
      rintro e W3 (⟨rfl, hJ3, hk3⟩ | ⟨rfl, hJx3⟩)
      · have HK3 : Hid (KpC (fun k => k = Bs ∨ k = b) W W3) := kpC_t HK.out hk3
        clear hk3
        gi_wp2
        go_roundw
        case rel => exact ⟨k + 1, by omega, by simp, by rw [HSU.out], by rw [upto_succ cs.length k hlt']; exact hJ3, HK3⟩
        case measure => simp [intOf]; omega
      · gi_wp2
        refine bodyPost_ret (results_none rfl _ _ _) rfl ?_
        exact ⟨⟨_, rfl⟩, .inr ⟨_, ⟨k + 1, by omega, (upto_succ cs.length k hlt').symm⟩, hJx3⟩⟩
    · have hJe : J (upto cs.length cs.length) wr := by
        have e : k = cs.length := by have := HM.out; omega
        rw [e] at hJs
        exact hJs
      obtain rfl : k = m := by omega
      gi_wp2
      go_end0
      exact ⟨⟨_, rfl⟩, .inl ⟨_, rfl, by rw [← upto_all]; exact hJe⟩⟩
set_option maxRecDepth 100000 in
theorem laid_stops (n : Nat) (hn : 1 ≤ n) (Bs b : Nat) (cs : List Int) (a : Option Addr) (hcs : Cnts cs) (w : World) (hL : LaidR w Bs cs a b) :
    SeqStopsK Fence.wide n Tryz.prog 145 #[.pointer (some ⟨Bs, 0, none⟩)] (encSp cs (m := cs.length)) (KpC fun k => k = Bs ∨ k = b) (fun ys => ys = List.finRange cs.length) (fun _ => True) cs.length w := fun l J Jx W hW hJ _ hY h0 =>
  (laid1_in n hn l Bs b cs a hcs J Jx hY W (hL.below hW) h0).mono fun e W' ⟨he, h⟩ => ⟨he, h.imp id fun ⟨pre, _, hj⟩ => ⟨pre, trivial, hj⟩⟩
end
end Go.Proofs.YtbdfllamhcodjaaGreat

/- The developers' find and used: loops over the parts of a disk. -/
namespace Go.Proofs.YtbdfllamhcodjaaGreat
open Go.RowKit Go.Shelf
set_option linter.unusedVariables false
attribute [-simp] Tryz.isAgg186 Tryz.zeroValue186
attribute [-go_sem] loadVar storeVar
attribute [local go_sem] Oper.semAt_some

def spL (f c : Int) : List Value := [.int .i64 f, .int .i64 c]
theorem loadVar_openS (t : TypeId) (h : t ≠ 186) (a : Addr) : loadVar t a = (do if ← isAgg t then pure (.agg (← loadCells a (← sizeOf t))) else load a) := rfl
theorem storeVar_openS (t : TypeId) (h : t ≠ 186) (a : Addr) (v : Value) : storeVar t a v = (do
    if v.cells.size ≠ (← sizeOf t) then stuck "storeVar: the value has not the size of the variable"
    storeCells a v.cells.toList) := rfl
set_option maxRecDepth 100000 in
theorem zero_span (w : World) : (zeroValue 186).run Tryz.prog w = .ok (.agg #[.int .i64 0, .int .i64 0]) w := by kernel_rfl
set_option maxRecDepth 100000 in
theorem build_span0 (w : World) : (Instr.build 186 #[]).run Tryz.prog w = .ok (.agg #[.int .i64 0, .int .i64 0]) w := by kernel_rfl
set_option maxRecDepth 100000 in
theorem size_span : (Tryz.prog.info? 186).map (·.size) = some 2 := by kernel_rfl
set_option maxRecDepth 100000 in
theorem load_span {x : World} {B : Nat} {t : TypeId} {f c : Int} (hr : RowC x B t (spL f c)) : (loadVar 186 ⟨B, 0, none⟩).run Tryz.prog x = .ok (.agg #[.int .i64 f, .int .i64 c]) x :=
  run_loadVar_mid x B 0 _ (spL f c) _ hr.range Tryz.underlying186 rfl (by kernel_rfl)
set_option maxRecDepth 100000 in
theorem store_span {x : World} {B : Nat} {old : List Value} {f c : Int} (hr : RowC x B 186 old) (ho : old.length = 2) :
    ∃ y, (storeVar 186 ⟨B, 0, none⟩ (.agg #[.int .i64 f, .int .i64 c])).run Tryz.prog x = .ok () y ∧ RowC y B 186 (spL f c) ∧ x.grownBy y (some B) := by
  refine ⟨_, run_storeVar_row x B _ _ old.toArray (spL f c).toArray hr size_span (by simpa [spL] using ho) (by kernel_rfl), setRow_heap x B _ _ _ _ hr, ?_⟩
  exact ⟨rfl, rfl, rfl, by rw [setRow_size]; exact Nat.le_refl _, fun k _ hk => setRow_other x B k _ (fun e => hk (by rw [e]))⟩
set_option maxRecDepth 100000 in
theorem new_span (x : World) (f c : Int) : (storeVar 186 ⟨x.heap.size, 0, none⟩ (.agg #[.int .i64 f, .int .i64 c])).run Tryz.prog (x.alloc (.cells #[.int .i64 0, .int .i64 0] 186)) = .ok () (x.alloc (.cells #[.int .i64 f, .int .i64 c] 186)) :=
  run_storeVar_new x _ _ (spL f c).toArray size_span rfl (by kernel_rfl)
theorem rowC_from {x y : World} {B N : Nat} {t : TypeId} {C : List Value} {row : Option Nat} (h : RowC x B t C) (hg : x.grownBy y row) (hr : ∀ r, row = some r → N ≤ r ∧ ∃ o : Obj, x.heap[r]? = some o ∧ o.isCells = false) : RowC y B t C :=
  (hg.block B h.lt (fun e => by
    obtain ⟨-, o, ho, hc⟩ := hr B e.symm
    rw [show x.heap[B]? = _ from h] at ho
    cases ho
    cases hc)).trans h
/-- A part that is looked for: its first sector, how many there are. -/
def spF (cs : List Int) (p : Nat) : Int := if p < cs.length then sumTo cs p else 0
def spC (cs : List Int) (p : Nat) : Int := if p < cs.length then ctAt cs p else 0

attribute [local go_sem] loadVar_openS storeVar_openS zero_span build_span0
theorem keepsFrom_grown {B : Nat} {x y : World} {b : Nat} {C : List Value} {t : TypeId} (h : RowC x b t C) (hg : x.grownBy y (some b)) : KeepsFrom B x y := ⟨hg.size, fun k o hk ho hc => by
  refine (hg.block k (Array.getElem?_eq_some_iff.1 ho).1 (fun e => ?_)).trans ho
  obtain rfl : b = k := by cases e; rfl
  rw [show x.heap[b]? = _ from h] at ho
  cases ho
  cases hc⟩

section
set_option maxRecDepth 100000
set_option maxHeartbeats 4000000
set_option maxRecDepth 100000 in
theorem gmFind (cs : List Int) (hcs : Cnts cs) (Bs b p : Nat) (a : Option Addr) (w : World) (hL : LaidR w Bs cs a b) :
    Calls Tryz.prog 97 #[.func (.func 145) #[] #[.pointer (some ⟨Bs, 0, none⟩)], .int .i64 (p : Int)] w fun e w' => e = .returned (.agg #[.int .i64 (spF cs p), .int .i64 (spC cs p)]) ∧ Below w.heap.size w w' := by
  refine (callsIn_wide (n := 3)).1 ?_
  refine callsIn_of_wp_marks Tryz.func97 rfl trivial ?_ rfl
  simp only [Tryz.ntmps97, List.size_toArray, List.length_cons, List.length_nil, Nat.reduceAdd, Nat.reduceSub, Array.replicate_succ, Array.replicate_zero, List.push_toArray, List.append_toArray, List.nil_append, List.cons_append]
  have HL := Lib.hid hL
  have HCS := Lib.hid hcs
  obtain ⟨B, hB⟩ : ∃ B, w.heap.size = B := ⟨_, rfl⟩
  have HSZ := Lib.hid hB
  have hltB : Hid (Bs < B) := by show _ < _; rw [← hB]; exact hL.lt
  have hbB : Hid (b < B) := by show _ < _; rw [← hB]; exact hL.blt
  clear hL hcs
  gi_wp2
  obtain ⟨W0, hW0⟩ : ∃ W0, (w.alloc (.cells #[.int .i64 (p : Int)] 3)).alloc (.cells #[.int .i64 0, .int .i64 0] 186) = W0 := ⟨_, rfl⟩
  have bv : Boxed W0 B 3 (.int .i64 (p : Int)) := by rw [← hW0, ← hB]; exact (Boxed.new w _ _).alloc _
  have br : RowC W0 (B + 1) 186 (spL 0 0) := by
    rw [← hW0, ← hB]
    have := RowC.new (w.alloc (.cells #[.int .i64 (p : Int)] 3)) 186 (spL 0 0)
    rwa [World.size_alloc] at this
  have hB0 : Below B w W0 := by rw [← hW0, ← hB]; exact ((Below.refl _ w).alloc (Nat.le_refl _) _).alloc (by simp) _
  have hsz0 : W0.heap.size = B + 2 := by rw [← hW0, ← hB]; simp
  have hL0 : LaidR W0 Bs cs a b := HL.out.below (by rw [hB]; exact hB0)
  try rw [hW0]
  clear hW0
  have hS : ∀ k, (k = Bs ∨ k = b) → k < B := by rintro k (rfl | rfl); exact hltB.out; exact hbB.out
  have HS := Lib.hid hS
  have HL0 := Lib.hid hL0
  have HB : Hid (∀ W, Below B w W → w.heap.size ≤ W.heap.size) := fun W h => h.size
  have HKA : Hid (∀ (W : World) (o : Obj), Below B w W → KpC (fun k => k = Bs ∨ k = b) W (W.alloc o)) := fun W o h => ⟨by simp, fun k hk => Below.heap_alloc _ _ _ (by have := hS k hk; have := h.size; omega)⟩
  clear hS hL0
  refine wpIn_rangeFunc_ownH (n := 3) rfl (by omega) (gf := 145) (lb := #[.pointer (some ⟨Bs, 0, none⟩)]) rfl trivial (enters_of Tryz.func145 (by kernel_rfl) rfl)
    (laid_stops 2 (by omega) Bs b cs a HCS.out W0 HL0.out) kpC_t (kpC_b (fun k hk => by have := HS.out k hk; omega)) (Below.refl _ _) (fun _ => rfl)
    (fun pre W => Boxed W B 3 (.int .i64 (p : Int)) ∧ RowC W (B + 1) 186 (spL 0 0) ∧ Below B w W ∧ ∀ y ∈ pre, y.1 ≠ p)
    (fun c pre W => c = .ret ∧ RowC W (B + 1) 186 (spL (spF cs p) (spC cs p)) ∧ Below B w W)
    ?hI ?hIx ⟨bv, br, hB0, fun y hy => by cases hy⟩
    (fun x a' W => ∃ C, B + 1 < C ∧ RowC W C 186 (spL (sumTo cs x.1) (ctAt cs x.1)) ∧ a' = { tmps := #[.func (.func 145) #[] #[.pointer (some ⟨Bs, 0, none⟩)], .int .i64 (p : Int), undef, .pointer (some ⟨B, 0, none⟩), .pointer (some ⟨B + 1, 0, none⟩), .int .i64 (x.1 : Int), .pointer (some ⟨C, 0, none⟩), .func (.func 145) #[] #[.pointer (some ⟨Bs, 0, none⟩)], .int .i64 (x.1 : Int), .agg #[.int .i64 (sumTo cs x.1), .int .i64 (ctAt cs x.1)], undef, undef, undef, undef, undef], defers := [] })
    ?hAx ?assign ?body ?done ?stop
  case hI =>
    intro s X Y row ⟨h1, h2, h3, h4⟩ hg hr
    exact ⟨boxed_own _ _ (fun _ : Unit => _) () X Y row h1 hg (fun r e => (hr r e).2), rowC_from h2 hg hr, ownFrom_below (β := Unit) (by omega) (by omega) () X Y row h3 hg hr, h4⟩
  case hIx =>
    intro c s X Y row ⟨h1, h2, h3⟩ hg hr
    exact ⟨h1, rowC_from h2 hg hr, ownFrom_below (β := Unit) (by omega) (by omega) () X Y row h3 hg hr⟩
  case hAx =>
    rintro x a' _ X Y row ⟨C, h1, h2, h3⟩ hg hr
    exact ⟨C, h1, rowC_from h2 hg hr, h3⟩
  case assign =>
    rintro l pre x W K ⟨h1, h2, h3, h4⟩ hK
    have ST := new_span W (sumTo cs x.1) (ctAt cs x.1)
    have HZ : Hid (B + 1 < W.heap.size) := h2.lt
    have H3 := Lib.hid h3
    have hK := hK _ _ ((KeepsOthers.alloc W (.cells #[.int .i64 (sumTo cs x.1), .int .i64 (ctAt cs x.1)] 186)).from _) (HKA.out W _ h3) ⟨h1.alloc _, h2.belowN (below_new W _) HZ.out, h3.alloc (by have := HZ.out; omega) _, h4⟩ ⟨W.heap.size, HZ.out, RowC.new W _ _, rfl⟩
    clear h1 h2 h3 h4
    dsimp only [encSp]
    gi_wp2
    exact hK
  case body =>
    rintro l pre x a' W _ _ ⟨h1, h2, h3, h4⟩ ⟨C, hC, hx, rfl⟩ hlen
    have d1 := h1.cell
    have d2 := load_span hx
    have hxl := x.2
    obtain ⟨y, ST, hy, hgy⟩ := store_span (f := sumTo cs x.1) (c := ctAt cs x.1) h2 rfl
    have HKF : Hid (KeepsFrom W0.heap.size W y) := keepsFrom_grown h2 hgy
    have H1 := Lib.hid h1
    have H2 := Lib.hid h2
    have H3 := Lib.hid h3
    have H4 := Lib.hid h4
    have HY := Lib.hid hy
    have HGY : Hid (Below B w y) := h3.grown hgy (by have := h3.size; omega) (fun j e => by cases e; omega)
    clear h1 h2 h3 h4 hx hy hgy
    by_cases q : (x.1 : Int) = (p : Int)
    · have q1 : ((x.1 : Int) == (p : Int)) = true := by simpa using q
      have HQ : Hid (x.1 = p) := by show _ = _; omega
      have HXL := Lib.hid hxl
      clear q hxl
      gi_wp2
      refine ⟨HKF.out, rfl, ?_, HGY.out⟩
      have e1 : spF cs p = sumTo cs x.1 := by unfold spF; rw [← HQ.out, if_pos HXL.out]
      have e2 : spC cs p = ctAt cs x.1 := by unfold spC; rw [← HQ.out, if_pos HXL.out]
      rw [e1, e2]
      exact HY.out
    · have q1 : ((x.1 : Int) == (p : Int)) = false := by simpa using q
      have HQ : Hid (x.1 ≠ p) := by show _ ≠ _; omega
      clear q hxl
      gi_wp2
      refine ⟨KeepsFrom.refl _ _, KpC.refl _ _, H1.out, H2.out, H3.out, fun y hy => ?_⟩
      rcases List.mem_append.1 hy with hy | hy
      · exact H4.out y hy
      · rw [List.mem_singleton.1 hy]; exact HQ.out
  case done =>
    rintro D xs W hD rfl ⟨h1, h2, h3, h4⟩ hK
    have hp : ¬ p < cs.length := fun h => h4 ⟨p, h⟩ (List.mem_finRange _) rfl
    have HE : Hid (spF cs p = 0 ∧ spC cs p = 0) := ⟨if_neg hp, if_neg hp⟩
    obtain ⟨y, ST, hy, hgy⟩ := store_span (f := 0) (c := 0) h2 rfl
    have hKy := (keepsFrom_grown (B := 0) h2 hgy).same D _ (Nat.zero_le _) hK rfl
    have HKY := Lib.hid hKy
    have HY := Lib.hid hy
    have HGY : Hid (Below B w y) := h3.grown hgy (by have := h3.size; omega) (fun j e => by cases e; omega)
    clear h1 h2 h3 h4 hp hy hgy hKy hK
    gi_wp2
    refine ⟨by simp, .inl ⟨_, _, rfl, run_takeDeferred HKY.out, ?_⟩⟩
    have hg2 := grownBy_putObj' y D (.deferred none)
    have hy2 : RowC _ (B + 1) 186 (spL 0 0) := rowC_from (N := 0) HY.out hg2 (fun r e => by cases e; exact ⟨Nat.zero_le _, _, HKY.out, rfl⟩)
    refine ⟨_, results_cell rfl rfl (load_span hy2), by rw [HE.out.1, HE.out.2], ?_⟩
    rw [HSZ.out]
    exact HGY.out.trans (belowK_b (w := w) (by omega) y D _ _ (by omega) HKY.out rfl rfl)
  case stop =>
    rintro D c pre W hD _ ⟨rfl, h2, h3⟩ hK
    have HR := Lib.hid h2
    have H3 := Lib.hid h3
    have HK := Lib.hid hK
    clear h2 h3 hK
    gi_wp2
    refine ⟨by simp, .inl ⟨_, _, rfl, run_takeDeferred HK.out, ?_⟩⟩
    have hg2 := grownBy_putObj' W D (.deferred none)
    have hy2 : RowC _ (B + 1) 186 (spL (spF cs p) (spC cs p)) := rowC_from (N := 0) HR.out hg2 (fun r e => by cases e; exact ⟨Nat.zero_le _, _, HK.out, rfl⟩)
    refine ⟨_, results_cell rfl rfl (load_span hy2), rfl, ?_⟩
    rw [HSZ.out]
    exact H3.out.trans (belowK_b (w := w) (by omega) W D _ _ (by omega) HK.out rfl rfl)
/-- Where the last part that has come ends. -/
def endOf (cs : List Int) {m : Nat} (xs : List (Fin m)) : Int := (xs.getLast?.map fun y => sumTo cs y.1 + ctAt cs y.1).getD 0
theorem endOf_snoc (cs : List Int) {m : Nat} (xs : List (Fin m)) (x : Fin m) : endOf cs (xs ++ [x]) = sumTo cs x.1 + ctAt cs x.1 := by
  unfold endOf
  rw [List.getLast?_concat]
  rfl
theorem endOf_all (cs : List Int) : endOf cs (List.finRange cs.length) = sumTo cs cs.length := by
  have key : ∀ (n : Nat) (h : n ≤ cs.length), endOf cs (upto cs.length n) = sumTo cs n := by
    intro n h
    cases n with
    | zero => rfl
    | succ n => rw [upto_succ cs.length n h, endOf_snoc, sumTo_succ cs h]
  rw [← upto_all]
  exact key _ (Nat.le_refl _)
set_option maxRecDepth 100000 in
theorem gmUsed (cs : List Int) (hcs : Cnts cs) (Bs b : Nat) (a : Option Addr) (w : World) (hL : LaidR w Bs cs a b) :
    Calls Tryz.prog 89 #[.func (.func 145) #[] #[.pointer (some ⟨Bs, 0, none⟩)]] w fun e w' => e = .returned (.int .i64 (sumTo cs cs.length)) ∧ Below w.heap.size w w' := by
  refine (callsIn_wide (n := 3)).1 ?_
  refine callsIn_of_wp_marks Tryz.func89 rfl trivial ?_ rfl
  simp only [Tryz.ntmps89, List.size_toArray, List.length_cons, List.length_nil, Nat.reduceAdd, Nat.reduceSub, Array.replicate_succ, Array.replicate_zero, List.push_toArray, List.append_toArray, List.nil_append, List.cons_append]
  have HL := Lib.hid hL
  have HCS := Lib.hid hcs
  obtain ⟨B, hB⟩ : ∃ B, w.heap.size = B := ⟨_, rfl⟩
  have HSZ := Lib.hid hB
  have hltB : Hid (Bs < B) := by show _ < _; rw [← hB]; exact hL.lt
  have hbB : Hid (b < B) := by show _ < _; rw [← hB]; exact hL.blt
  clear hL hcs
  gi_wp2
  obtain ⟨W0, hW0⟩ : ∃ W0, w.alloc (.cells #[.int .i64 0] 3) = W0 := ⟨_, rfl⟩
  have bv : Boxed W0 B 3 (.int .i64 0) := by rw [← hW0, ← hB]; exact Boxed.new w _ _
  have hB0 : Below B w W0 := by rw [← hW0, ← hB]; exact (Below.refl _ w).alloc (Nat.le_refl _) _
  have hsz0 : W0.heap.size = B + 1 := by rw [← hW0, ← hB]; simp
  have hL0 : LaidR W0 Bs cs a b := HL.out.below (by rw [hB]; exact hB0)
  try rw [hW0]
  clear hW0
  have hS : ∀ k, (k = Bs ∨ k = b) → k < B := by rintro k (rfl | rfl); exact hltB.out; exact hbB.out
  have HS := Lib.hid hS
  have HL0 := Lib.hid hL0
  have HKA : Hid (∀ (W : World) (o : Obj), Below B w W → KpC (fun k => k = Bs ∨ k = b) W (W.alloc o)) := fun W o h => ⟨by simp, fun k hk => Below.heap_alloc _ _ _ (by have := hS k hk; have := h.size; omega)⟩
  clear hS hL0
  refine wpIn_rangeFunc_ownH (n := 3) rfl (by omega) (gf := 145) (lb := #[.pointer (some ⟨Bs, 0, none⟩)]) rfl trivial (enters_of Tryz.func145 (by kernel_rfl) rfl)
    (laid_stops 2 (by omega) Bs b cs a HCS.out W0 HL0.out) kpC_t (kpC_b (fun k hk => by have := HS.out k hk; omega)) (Below.refl _ _) (fun _ => rfl)
    (fun pre W => Boxed W B 3 (.int .i64 (endOf cs pre)) ∧ Below B w W)
    (fun _ _ _ => False)
    ?hI (fun _ _ _ _ _ h _ _ => h.elim) ⟨bv, hB0⟩
    (fun x a' W => ∃ C, B < C ∧ RowC W C 186 (spL (sumTo cs x.1) (ctAt cs x.1)) ∧ a' = { tmps := #[.func (.func 145) #[] #[.pointer (some ⟨Bs, 0, none⟩)], undef, .int .i64 0, .pointer (some ⟨B, 0, none⟩), undef, .pointer (some ⟨C, 0, none⟩), .func (.func 145) #[] #[.pointer (some ⟨Bs, 0, none⟩)], .int .i64 (x.1 : Int), .agg #[.int .i64 (sumTo cs x.1), .int .i64 (ctAt cs x.1)], undef, undef, undef, undef, undef, undef], defers := [] })
    ?hAx ?assign ?body ?done ?stop
  case hI =>
    intro s X Y row ⟨h1, h3⟩ hg hr
    exact ⟨boxed_own _ _ (fun _ : Unit => _) () X Y row h1 hg (fun r e => (hr r e).2), ownFrom_below (β := Unit) (by omega) (by omega) () X Y row h3 hg hr⟩
  case hAx =>
    rintro x a' _ X Y row ⟨C, h1, h2, h3⟩ hg hr
    exact ⟨C, h1, rowC_from h2 hg hr, h3⟩
  case assign =>
    rintro l pre x W K ⟨h1, h3⟩ hK
    have ST := new_span W (sumTo cs x.1) (ctAt cs x.1)
    have HZ : Hid (B < W.heap.size) := h1.lt
    have hK := hK _ _ ((KeepsOthers.alloc W (.cells #[.int .i64 (sumTo cs x.1), .int .i64 (ctAt cs x.1)] 186)).from _) (HKA.out W _ h3) ⟨h1.alloc _, h3.alloc (by have := HZ.out; omega) _⟩ ⟨W.heap.size, HZ.out, RowC.new W _ _, rfl⟩
    clear h1 h3
    dsimp only [encSp]
    gi_wp2
    exact hK
  case body =>
    rintro l pre x a' W _ _ ⟨h1, h3⟩ ⟨C, hC, hx, rfl⟩ hlen
    have d1 := h1.cell
    have d2 := h1.frozen
    have k0 : W.cell? ⟨C, 0, none⟩ = some (.int .i64 (sumTo cs x.1)) := hx.cell 0 _ rfl
    have k1 : W.cell? ⟨C, 1, none⟩ = some (.int .i64 (ctAt cs x.1)) := hx.cell 1 _ rfl
    have hxl := x.2
    have hc4 := HCS.out.len
    obtain ⟨s1, s2⟩ := sumTo_bd cs HCS.out.bd x.1
    obtain ⟨q1, q2⟩ := HCS.out.bd x.1
    have HV := Lib.hid (endOf_snoc cs pre x)
    obtain ⟨s, hs⟩ : ∃ k, sumTo cs x.1 = k := ⟨_, rfl⟩
    obtain ⟨c, hcc⟩ : ∃ k, ctAt cs x.1 = k := ⟨_, rfl⟩
    obtain ⟨e, he⟩ : ∃ k, endOf cs pre = k := ⟨_, rfl⟩
    rw [hs] at k0 s1 s2 HV ⊢
    rw [hcc] at k1 q1 q2 HV ⊢
    rw [he] at h1 d1
    have s3 : s ≤ 4000 := by omega
    have H1 := Lib.hid h1
    have H3 := Lib.hid h3
    have HBL : Hid (∀ k, (k = Bs ∨ k = b) → k ≠ B) := fun k hk => by have := HS.out k hk; omega
    clear h1 h3 hx hs hcc he hxl hc4 s2
    gi_wp2
    refine ⟨(KeepsOthers.setCell _ _ _).from _, ⟨(KeepsWalks.setCell W _ _).size, fun k hk => Below.heap_setCell _ _ _ k (HBL.out k hk)⟩, ?_, H3.out.setCell (p := ⟨B, 0, none⟩) (Nat.le_refl _) _⟩
    rw [HV.out]
    exact H1.out.set _
  case done =>
    rintro D xs W hD rfl ⟨h1, h3⟩ hK
    have d1 := h1.cell
    have HV := Lib.hid (endOf_all cs)
    have H3 := Lib.hid h3
    have HK := Lib.hid hK
    clear h1 h3 hK
    gi_wp2
    refine ⟨by simp, .inl ⟨_, _, rfl, run_takeDeferred HK.out, ?_⟩⟩
    refine ⟨_, results_tmp rfl _ _ _, by rw [← HV.out]; rfl, ?_⟩
    rw [HSZ.out]
    exact H3.out.trans (belowK_b (w := w) (by omega) W D _ _ (by omega) HK.out rfl rfl)
  case stop =>
    rintro D c pre W hD _ h _
    exact h.elim
end
end Go.Proofs.YtbdfllamhcodjaaGreat

/- The developers' two disks, part by part; the sectors asked of them. -/
namespace Go.Proofs.YtbdfllamhcodjaaGreat
open Go.RowKit Go.Shelf
set_option linter.unusedVariables false
attribute [-simp] Tryz.isAgg186 Tryz.zeroValue186
attribute [-go_sem] loadVar storeVar
theorem loadVar_open7 (t : TypeId) (h : t ≠ 186 ∧ t ≠ 23) (a : Addr) : loadVar t a = (do if ← isAgg t then pure (.agg (← loadCells a (← sizeOf t))) else load a) := rfl
theorem storeVar_open7 (t : TypeId) (h : t ≠ 186 ∧ t ≠ 23) (a : Addr) (v : Value) : storeVar t a v = (do
    if v.cells.size ≠ (← sizeOf t) then stuck "storeVar: the value has not the size of the variable"
    storeCells a v.cells.toList) := rfl
attribute [local go_sem] loadVar_open7 storeVar_open7

/-- How many sectors the parts of the fast disk, of the slow disk, have. -/
def Geo.fcs (g : Geo) : List Int := if g.good then [2, g.r, g.pgs, g.slots] else []
def Geo.wcs (g : Geo) : List Int := if g.good then [g.b, g.a] else []
theorem cnts4 {a b c d : Int} (h1 : 0 ≤ a ∧ a ≤ 1000) (h2 : 0 ≤ b ∧ b ≤ 1000) (h3 : 0 ≤ c ∧ c ≤ 1000) (h4 : 0 ≤ d ∧ d ≤ 1000) : Cnts [a, b, c, d] := ⟨by simp, fun k => by
  unfold ctAt
  match k with
  | 0 => exact h1
  | 1 => exact h2
  | 2 => exact h3
  | 3 => exact h4
  | k + 4 => simp⟩
theorem cnts2 {a b : Int} (h1 : 0 ≤ a ∧ a ≤ 1000) (h2 : 0 ≤ b ∧ b ≤ 1000) : Cnts [a, b] := ⟨by simp, fun k => by
  unfold ctAt
  match k with
  | 0 => exact h1
  | 1 => exact h2
  | k + 2 => simp⟩
theorem cnts0 : Cnts [] := ⟨by simp, fun k => by unfold ctAt; simp⟩
theorem Geo.fcs_ok (g : Geo) : Cnts g.fcs := by
  unfold Geo.fcs
  by_cases hg : g.good
  · rw [if_pos hg]
    obtain ⟨b1, b2, b3, b4, b5, b6⟩ := Geo.bounds hg.1
    have h9 := hg.2.1
    have h10 := hg.2.2
    exact cnts4 (by omega) (by omega) (by omega) (by omega)
  · rw [if_neg hg]; exact cnts0
theorem Geo.wcs_ok (g : Geo) : Cnts g.wcs := by
  unfold Geo.wcs
  by_cases hg : g.good
  · rw [if_pos hg]
    obtain ⟨h1, h2, h3, h4, h5, h6, h7, h8⟩ := hg.1
    exact cnts2 (by omega) (by omega)
  · rw [if_neg hg]; exact cnts0
set_option maxRecDepth 100000 in
theorem laid4 (x y z t : Int) (w : World) : (Instr.buildSlice 209 4 #[(0, .int .i64 x), (1, .int .i64 y), (2, .int .i64 z), (3, .int .i64 t)]).run Tryz.prog w = .ok (.slice (some ⟨w.heap.size, 0, none⟩) 4 4) (w.alloc (.cells [.int .i64 x, .int .i64 y, .int .i64 z, .int .i64 t].toArray 3)) := by kernel_rfl
set_option maxRecDepth 100000 in
theorem laid2 (x y : Int) (w : World) : (Instr.buildSlice 209 2 #[(0, .int .i64 x), (1, .int .i64 y)]).run Tryz.prog w = .ok (.slice (some ⟨w.heap.size, 0, none⟩) 2 2) (w.alloc (.cells [.int .i64 x, .int .i64 y].toArray 3)) := by kernel_rfl
set_option maxRecDepth 100000 in
theorem laid_calls (a : Option Addr) (len cap : Nat) (w : World) : Calls Tryz.prog 131 #[.slice a len cap] w fun e w' => e = .returned (.func (.func 145) #[] #[.pointer (some ⟨w.heap.size, 0, none⟩)]) ∧ w' = w.alloc (.cells #[.slice a len cap] 209) :=
  (callsIn_wide (n := 3)).1 (laid_in Fence.wide 3 trivial rfl a len cap w)
/-- A row of numbers that was laid, and a box of it: parts in memory. -/
theorem laidR_new (w : World) (cs : List Int) : LaidR ((w.alloc (.cells (cs.map (Value.int .i64)).toArray 3)).alloc (.cells #[.slice (some ⟨w.heap.size, 0, none⟩) cs.length cs.length] 209)) (w.alloc (.cells (cs.map (Value.int .i64)).toArray 3)).heap.size cs (some ⟨w.heap.size, 0, none⟩) w.heap.size := by
  obtain ⟨V, hV⟩ : ∃ V, w.alloc (.cells (cs.map (Value.int .i64)).toArray 3) = V := ⟨_, rfl⟩
  have r : RowC V w.heap.size 3 (cs.map (Value.int .i64)) := by rw [← hV]; exact RowC.new w _ _
  rw [hV]
  have r2 := r.below (below_new V (.cells #[.slice (some ⟨w.heap.size, 0, none⟩) cs.length cs.length] 209))
  refine ⟨Boxed.new V _ _, by simp, r2.lt, .inr ⟨rfl, fun j hj => ?_⟩⟩
  rw [Nat.zero_add]
  refine r2.cell j _ ?_
  unfold ctAt
  rw [List.getElem?_map, List.getElem?_eq_getElem hj]
  rfl
theorem laidR_nil (w : World) : LaidR (w.alloc (.cells #[.slice none 0 0] 209)) w.heap.size [] none w.heap.size := ⟨Boxed.new w _ _, by simp, by simp, .inl rfl⟩

section
set_option maxRecDepth 100000
set_option maxHeartbeats 4000000
set_option maxRecDepth 100000 in
theorem gmFastP (g : Geo) (hi : g.In) (w : World) : Calls Tryz.prog 90 #[.agg g.v] w fun e w' => ∃ Bs a b, e = .returned (.func (.func 145) #[] #[.pointer (some ⟨Bs, 0, none⟩)]) ∧ LaidR w' Bs g.fcs a b ∧ Below w.heap.size w w' := by
  have hmx : Tryz.prog.follows .mixedOrders = true := by kernel_rfl
  obtain ⟨W, hW⟩ : ∃ W, w.alloc (.cells g.v 23) = W := ⟨_, rfl⟩
  have r : RowC W w.heap.size 23 g.cs := by rw [← hW]; exact RowC.new w _ _
  have HB : Hid (Below w.heap.size w W) := by show Below _ _ _; rw [← hW]; exact below_new w _
  obtain ⟨B, hB⟩ : ∃ b, w.heap.size = b := ⟨_, rfl⟩
  rw [hB] at r
  have L0 := load_geo r
  have HR := Lib.hid r
  have HG := Lib.hid (gmGood g hi W)
  have HP := Lib.hid (fun x => gmPages g hi x)
  have HI := Lib.hid hi
  clear r hi
  by_cases hg : g.good
  · have e : g.fcs = [2, g.r, g.pgs, g.slots] := if_pos hg
    have e2 : g.oP = g.pgs := if_pos hg
    have HS := Lib.hid (fun x => gmSlots g hg.1 x)
    rw [decide_eq_true hg] at HG
    rw [e2] at HP
    rw [e]
    obtain ⟨rr, hrr⟩ : ∃ n, g.r = n := ⟨_, rfl⟩
    obtain ⟨P, hP⟩ : ∃ n, g.pgs = n := ⟨_, rfl⟩
    obtain ⟨M, hM⟩ : ∃ n, g.slots = n := ⟨_, rfl⟩
    rw [hP] at HP
    rw [hM] at HS
    rw [hrr, hP, hM]
    have HRR := Lib.hid hrr
    clear e e2 hg hrr hP hM
    go_enter Tryz.func90, Tryz.ntmps90
    go_wp2_with fail
    refine HG.out.mono ?_
    rintro e x ⟨rfl, hb⟩
    have HBX : Hid (Below w.heap.size w x) := HB.out.trans (hb.mono HB.out.size)
    have LG : ∀ z : Ext x, (loadVar 23 ⟨B, 0, none⟩).run Tryz.prog z.1 = .ok (.agg g.v) z.1 := fun z => load_geo ((HR.out.below hb).below z.2)
    have C4 : ∀ z : Ext x, z.1.cell? ⟨B, 4, none⟩ = some (.int .i64 rr) := fun z => by rw [← HRR.out]; exact ((HR.out.below hb).below z.2).cell 4 _ rfl
    clear hb L0
    go_wp2_with fail
    refine region_plan (fun u => ∃ y : Ext x, u = y.1) 8 (.takes [0, 1, 2, 4] (.one 3 (.one 5 (.one 6 (.one 7 .leaf))))) hmx (by kernel_rfl) (by intro c x v a w h; cases x <;> exact h) ⟨⟨x.drew, (Below.refl _ x).drew⟩, rfl⟩ ?_
    repeat (rw [wpPlan_takes_cons]; simp only [nth_zero, nth_succ]; go_big_quiet_step (fail); refine wpQuiet_nil ?_)
    rw [wpPlan_takes_nil, wpPlan_one]
    simp only [nth_zero, nth_succ]
    have HXD : Hid (Below x.heap.size x x.drew) := (Below.refl _ x).drew
    clear LG C4
    obtain ⟨X, hX⟩ : ∃ X, x.drew = X := ⟨_, rfl⟩
    rw [hX] at HXD ⊢
    clear hX
    go_wp2_with fail
    refine (HP.out _).mono ?_
    rintro e x1 ⟨rfl, hb1⟩
    have HX1 : Hid (Below x.heap.size x x1) := HXD.out.trans (hb1.mono HXD.out.size)
    clear hb1
    go_wp2_with fail
    refine planPost_mk ⟨⟨x1, HX1.out⟩, rfl⟩ ?_
    rw [wpPlan_one]
    simp only [nth_zero, nth_succ]
    go_wp2_with fail
    refine (HS.out _).mono ?_
    rintro e x2 ⟨rfl, hb2⟩
    have HX2 : Hid (Below x.heap.size x x2) := HX1.out.trans (hb2.mono HX1.out.size)
    clear hb2
    go_wp2_with fail
    refine planPost_mk ⟨⟨x2, HX2.out⟩, rfl⟩ ?_
    rw [wpPlan_one]
    simp only [nth_zero, nth_succ]
    have HL := Lib.hid (laidR_new x2 [2, rr, P, M])
    have HBL := Lib.hid (laid4 2 rr P M x2)
    obtain ⟨x3, hx3⟩ : ∃ y, x2.alloc (.cells [.int .i64 2, .int .i64 rr, .int .i64 P, .int .i64 M].toArray 3) = y := ⟨_, rfl⟩
    have HX3 : Hid (Below x.heap.size x x3) := by show Below _ _ _; rw [← hx3]; exact HX2.out.alloc HX2.out.size _
    obtain ⟨N, hN⟩ : ∃ n, x2.heap.size = n := ⟨_, rfl⟩
    have HL : Hid (LaidR (x3.alloc (.cells #[.slice (some ⟨N, 0, none⟩) 4 4] 209)) x3.heap.size [2, rr, P, M] (some ⟨N, 0, none⟩) N) := by show LaidR _ _ _ _ _; rw [← hN, ← hx3]; exact HL.out
    rw [hx3, hN] at HBL
    clear hx3
    refine wpList_build_run _ _ _ rfl rfl [(0, .int .i64 2), (1, .int .i64 rr), (2, .int .i64 P), (3, .int .i64 M)] _ rfl HBL.out ?_
    refine wpList_nil ?_
    refine planPost_mk ⟨⟨x3, HX3.out⟩, rfl⟩ ?_
    rw [wpPlan_one]
    simp only [nth_zero, nth_succ]
    clear hN
    go_wp2_with fail
    refine (laid_calls _ _ _ _).mono ?_
    rintro e x4 ⟨rfl, hx4⟩
    rw [← hx4] at HL
    have HX4 : Hid (Below x.heap.size x x4) := by show Below _ _ _; rw [hx4]; exact HX3.out.alloc HX3.out.size _
    clear hx4
    go_wp2_with fail
    refine planPost_mk ⟨⟨x4, HX4.out⟩, rfl⟩ ?_
    rw [wpPlan_leaf]
    simp only [List.drop_succ_cons, List.drop_zero]
    go_wp2_with fail
    go_ret
    exact ⟨_, _, _, rfl, HL.out, HBX.out.trans (HX4.out.mono HBX.out.size)⟩
  · have e : g.fcs = [] := if_neg hg
    rw [decide_eq_false hg] at HG
    rw [e]
    clear e hg
    go_enter Tryz.func90, Tryz.ntmps90
    go_wp2_with fail
    refine HG.out.mono ?_
    rintro e x ⟨rfl, hb⟩
    have HBX : Hid (Below w.heap.size w x) := HB.out.trans (hb.mono HB.out.size)
    clear hb L0
    go_wp2_with fail
    refine (laid_calls _ _ _ _).mono ?_
    rintro e x4 ⟨rfl, hx4⟩
    have HL := Lib.hid (laidR_nil x)
    rw [← hx4] at HL
    have HX4 : Hid (Below w.heap.size w x4) := by show Below _ _ _; rw [hx4]; exact HBX.out.alloc HBX.out.size _
    clear hx4
    go_wp2_with fail
    go_ret
    exact ⟨_, _, _, rfl, HL.out, HX4.out⟩
set_option maxRecDepth 100000 in
theorem gmSlowP (g : Geo) (hi : g.In) (w : World) : Calls Tryz.prog 91 #[.agg g.v] w fun e w' => ∃ Bs a b, e = .returned (.func (.func 145) #[] #[.pointer (some ⟨Bs, 0, none⟩)]) ∧ LaidR w' Bs g.wcs a b ∧ Below w.heap.size w w' := by
  obtain ⟨W, hW⟩ : ∃ W, w.alloc (.cells g.v 23) = W := ⟨_, rfl⟩
  have r : RowC W w.heap.size 23 g.cs := by rw [← hW]; exact RowC.new w _ _
  have HB : Hid (Below w.heap.size w W) := by show Below _ _ _; rw [← hW]; exact below_new w _
  obtain ⟨B, hB⟩ : ∃ b, w.heap.size = b := ⟨_, rfl⟩
  rw [hB] at r
  have L0 := load_geo r
  have HR := Lib.hid r
  have HG := Lib.hid (gmGood g hi W)
  clear r hi
  by_cases hg : g.good
  · have e : g.wcs = [g.b, g.a] := if_pos hg
    rw [decide_eq_true hg] at HG
    rw [e]
    obtain ⟨bb, hbb⟩ : ∃ n, g.b = n := ⟨_, rfl⟩
    obtain ⟨aa, haa⟩ : ∃ n, g.a = n := ⟨_, rfl⟩
    rw [hbb, haa]
    have HBB := Lib.hid hbb
    have HAA := Lib.hid haa
    clear e hg hbb haa
    go_enter Tryz.func91, Tryz.ntmps91
    go_wp2_with fail
    refine HG.out.mono ?_
    rintro e x2 ⟨rfl, hb⟩
    have HX2 : Hid (Below w.heap.size w x2) := HB.out.trans (hb.mono HB.out.size)
    have C0 : x2.cell? ⟨B, 0, none⟩ = some (.int .i64 bb) := by rw [← HBB.out]; exact (HR.out.below hb).cell 0 _ rfl
    have C3 : x2.cell? ⟨B, 3, none⟩ = some (.int .i64 aa) := by rw [← HAA.out]; exact (HR.out.below hb).cell 3 _ rfl
    clear hb L0
    have HL := Lib.hid (laidR_new x2 [bb, aa])
    have HBL := Lib.hid (laid2 bb aa x2)
    obtain ⟨x3, hx3⟩ : ∃ y, x2.alloc (.cells [.int .i64 bb, .int .i64 aa].toArray 3) = y := ⟨_, rfl⟩
    have HX3 : Hid (Below w.heap.size w x3) := by show Below _ _ _; rw [← hx3]; exact HX2.out.alloc HX2.out.size _
    obtain ⟨N, hN⟩ : ∃ n, x2.heap.size = n := ⟨_, rfl⟩
    have HL : Hid (LaidR (x3.alloc (.cells #[.slice (some ⟨N, 0, none⟩) 2 2] 209)) x3.heap.size [bb, aa] (some ⟨N, 0, none⟩) N) := by show LaidR _ _ _ _ _; rw [← hN, ← hx3]; exact HL.out
    rw [hx3, hN] at HBL
    clear hx3 hN
    go_wp2_with (first | ((with_reducible refine gate_build ?_); refine wpList_build_run _ _ _ rfl rfl [(0, .int .i64 bb), (1, .int .i64 aa)] _ rfl HBL.out ?_))
    refine (laid_calls _ _ _ _).mono ?_
    rintro e x4 ⟨rfl, hx4⟩
    rw [← hx4] at HL
    have HX4 : Hid (Below w.heap.size w x4) := by show Below _ _ _; rw [hx4]; exact HX3.out.alloc HX3.out.size _
    clear hx4
    go_wp2_with fail
    go_ret
    exact ⟨_, _, _, rfl, HL.out, HX4.out⟩
  · have e : g.wcs = [] := if_neg hg
    rw [decide_eq_false hg] at HG
    rw [e]
    clear e hg
    go_enter Tryz.func91, Tryz.ntmps91
    go_wp2_with fail
    refine HG.out.mono ?_
    rintro e x ⟨rfl, hb⟩
    have HBX : Hid (Below w.heap.size w x) := HB.out.trans (hb.mono HB.out.size)
    clear hb L0
    go_wp2_with fail
    refine (laid_calls _ _ _ _).mono ?_
    rintro e x4 ⟨rfl, hx4⟩
    have HL := Lib.hid (laidR_nil x)
    rw [← hx4] at HL
    have HX4 : Hid (Below w.heap.size w x4) := by show Below _ _ _; rw [hx4]; exact HBX.out.alloc HBX.out.size _
    clear hx4
    go_wp2_with fail
    go_ret
    exact ⟨_, _, _, rfl, HL.out, HX4.out⟩
end
end Go.Proofs.YtbdfllamhcodjaaGreat

