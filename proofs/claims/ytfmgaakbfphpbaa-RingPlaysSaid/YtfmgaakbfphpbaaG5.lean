/- The ground of the proofs, part 5: RgDRp RgAll RgLn PgArg Steps06 RefRigC BothR. -/
import Derived.Test.YtfmgaakbfphpbaaG4
import Derived.WalkMore
import Derived.LoopTactic
/- The developers' ring: Replay. -/
namespace Go.Proofs.Ytfmgaakbfphpbaa
open Go.RowKit Go.Shelf
set_option linter.unusedVariables false
attribute [-simp] Try.isAgg59 Try.zeroValue59 Try.isAgg79 Try.zeroValue79 Try.isAgg107 Try.zeroValue107 Try.isAgg81 Try.zeroValue81
attribute [-go_sem] loadVar storeVar run_equalIn_agg
attribute [local go_sem] zero_blk build_blk zero_bod zero_pg build_pg build_pg0 zero_imgD loadVar_openD storeVar_openD

set_option maxRecDepth 100000 in
theorem load_logD {x : World} {B a : Nat} {t : TypeId} {v : Value} {q : Int} (h : RowC x B t (logD v a q)) : (loadVar 48 ⟨B, 0, none⟩).run Try.prog x = .ok (.agg (logD v a q).toArray) x :=
  run_loadVar_mid x B 0 _ (logD v a q) _ h.range Try.underlying48 rfl (by kernel_rfl)
set_option maxRecDepth 100000 in
theorem store_logD {x : World} {B a : Nat} {old : List Value} {v : Value} {q : Int} (h : RowC x B 48 old) (ho : old.length = 3) (hv : v.oneCell' = true) :
    ∃ y, (storeVar 48 ⟨B, 0, none⟩ (.agg (logD v a q).toArray)).run Try.prog x = .ok () y ∧ RowC y B 48 (logD v a q) ∧ x.grownBy y (some B) := by
  refine ⟨_, run_storeVar_row x B _ _ old.toArray (logD v a q).toArray h size_logD (by simpa [logD] using ho) (by simp [logD, hv]; exact ⟨rfl, rfl⟩), setRow_heap x B _ _ _ _ h, ?_⟩
  exact ⟨rfl, rfl, rfl, by rw [setRow_size]; exact Nat.le_refl _, fun k _ hk => setRow_other x B k _ (fun e => hk (by rw [e]))⟩

set_option maxRecDepth 100000 in
set_option maxHeartbeats 4000000 in
/-- .. of no such ring. -/
theorem rgReplay_no0 {v : Value} {n0 : Nat} {w : World} (hn : n0 ≤ 4096) (HL : ∀ x, Below w.heap.size w x → Calls Try.prog 52 #[v, .int .i64 0] x fun e w' => e = .returned (.int .i64 (n0 : Int)) ∧ Below x.heap.size x w') {frm count at0 seq : Int} (hm : mayR n0 frm count at0 = false) :
    Calls Try.prog 15 #[v, .int .i64 frm, .int .i64 count, .int .i64 at0, .int .u32 seq] w fun e w' => e = .returned (.tuple #[.agg (logD (.slice none 0 0) 0 0).toArray, .int .i64 1]) ∧ Below w.heap.size w w' := by
  have HF := Lib.hid (rgFits hn frm count at0 (w.alloc (.cells #[.slice none 0 0, .int .i64 0, .int .u32 0] 48)) (HL _ (below_new w _)))
  rw [hm] at HF
  clear HL hm hn
  go_enter Try.func15, Try.ntmps15
  go_wp2_with fail
  go_step3
  go_wp2_with fail
  go_at_call 30
  refine HF.out.mono ?_
  rintro e x ⟨rfl, hb⟩
  have hr := (RowC.new w 48 (logD (.slice none 0 0) 0 0)).below hb
  have hb1 : Below w.heap.size w x := (below_new w (.cells (logD (.slice none 0 0) 0 0).toArray 48)).trans (hb.mono (below_new w _).size)
  obtain ⟨y, ST, hy, hg⟩ := store_logD (v := .slice none 0 0) (a := 0) (q := 0) hr rfl rfl
  have ST' : (storeVar 48 ⟨w.heap.size, 0, none⟩ (.agg #[.slice none 0 0, .int .i64 0, .int .u32 0])).run Try.prog x = .ok () y := ST
  have LD := load_logD hy
  clear ST
  have HB : Hid (Below w.heap.size w y) := hb1.grown hg hb1.size (fun j e => by cases e; exact Nat.le_refl _)
  clear hb hr hb1 hy hg
  go_wp2_with fail
  rw [Exit.noGoto_ret]
  refine bodyPost_ret (results_cell2 rfl rfl LD) rfl ⟨rfl, HB.out⟩

def slLen : Value → Nat
  | .slice _ n _ => n
  | _ => 0

set_option maxRecDepth 100000 in
set_option maxHeartbeats 8000000 in
/-- **Replay**. -/
theorem rgReplay {rb p0 p1 : Nat} {S : RS} {w : World} {f : Nat → Prop} (h : RigR rb p0 p1 S w f) (hby : S.Byt) (hup : S.down = false) {F C A : Nat} (hC2 : 2 ≤ C) (hC : C ≤ 256) (hF : F + C ≤ S.n0) (hA : A < C) (hn : S.n0 ≤ 4096) {seq : Int} (hs : IsSeq seq) :
    Calls Try.prog 15 #[.pointer (some ⟨rb, 0, none⟩), .int .i64 (F : Int), .int .i64 (C : Int), .int .i64 (A : Int), .int .u32 seq] w fun e w' =>
      (∃ v, e = .returned (.tuple #[.agg (logD v (repS S.rd F C A seq).2.1 (repS S.rd F C A seq).2.2).toArray, .int .i64 0]) ∧ TxnsR 38 81 w' w.heap.size v (repS S.rd F C A seq).1) ∧ Below w.heap.size w w' := by
  obtain ⟨res, hres⟩ : ∃ res, repS S.rd F C A seq = res := ⟨_, rfl⟩
  have HR : Hid (conGo S.rd F C C [] A seq 0 [] = res) := by show _ = _; rw [con_start]; exact hres
  rw [hres]
  have HF : Hid (∀ x, Below w.heap.size w x → Calls Try.prog 30 #[.pointer (some ⟨rb, 0, none⟩), .int .i64 (F : Int), .int .i64 (C : Int), .int .i64 (A : Int)] x fun e w' => e = .returned (.bool true) ∧ Below x.heap.size x w') := fun x hx => rgFits_yes (h.beside hx) hn hC2 hC hF hA
  have HBY := Lib.hid hby
  have HRD : Hid (∀ (x : World) (i : Nat), Below w.heap.size w x → i < S.n0 → Calls Try.prog 23 #[.pointer (some ⟨rb, 0, none⟩), .int .i64 0, .int .i64 (i : Int)] x fun e w' => e = .returned (.tuple #[.agg (u8s (S.rd i)).toArray, .int .i64 0]) ∧ Below x.heap.size x w') := fun x i hx hin => by
    have hh := (h.beside hx).read 0 (i : Int)
    have e1 : S.read 0 (i : Int) = u8s (S.rd i) := by
      unfold RS.read
      rw [if_pos ⟨RS.has0 hin, hup⟩]
      unfold RS.look
      rw [if_pos rfl]
      exact (hby i hin).2.2
    have e2 : S.readE 0 (i : Int) = 0 := by
      unfold RS.readE
      rw [if_pos (RS.has0 hin), if_neg (by rw [hup]; simp)]
    rw [e1, e2] at hh
    exact hh
  have HSQ := Lib.hid hs
  have HFN := Lib.hid hF
  have hF4 : F ≤ 4096 := by omega
  obtain ⟨rd, hrd⟩ : ∃ rd, S.rd = rd := ⟨_, rfl⟩
  have HBY2 : Hid (∀ i, i < S.n0 → IsBytes (rd i) ∧ (rd i).length = 64) := fun i hi => by rw [← hrd]; exact ⟨(hby i hi).1, (hby i hi).2.1⟩
  rw [hrd] at HR HRD
  clear h hby hup hs hres hF hn HBY hrd
  go_enter Try.func15, Try.ntmps15
  go_wp2_with fail
  go_step3
  go_wp2_with fail
  go_at_call 30
  refine (HF.out _ (below_new w _)).mono ?_
  rintro e x ⟨rfl, hb⟩
  have R0 := (RowC.new w 48 (logD (.slice none 0 0) 0 0)).below hb
  have hb1 : Below w.heap.size w x := (below_new w (.cells (logD (.slice none 0 0) 0 0).toArray 48)).trans (hb.mono (below_new w _).size)
  have hne : w.heap.size < x.heap.size := R0.lt
  obtain ⟨W, hW⟩ : ∃ W, x.alloc (.cells #[.slice none 0 0, .int .i64 (A : Int), .int .u32 seq] 48) = W := ⟨_, rfl⟩
  have ST := store_newLD (w := x) (a := .slice none 0 0) (b := .int .i64 0) (c := .int .u32 0) (a' := .slice none 0 0) (b' := .int .i64 (A : Int)) (c' := .int .u32 seq) ⟨rfl, rfl, rfl⟩
  rw [hW] at ST
  have hb2 : Below x.heap.size x W := by rw [← hW]; exact below_new x _
  have r1 : RowC W x.heap.size 48 (logD (.slice none 0 0) A seq) := by rw [← hW]; exact RowC.new x _ _
  have RZ := Lib.hid (R0.below hb2)
  have RL := Lib.hid r1
  have HB := Lib.hid (hb1.trans (hb2.mono hb1.size))
  clear hb R0 hb1 hW hb2 r1 HF
  obtain ⟨B, hB⟩ : ∃ B, x.heap.size = B := ⟨_, rfl⟩
  rw [hB] at ST RL hne
  have hNW : Hid (w.heap.size ≤ W.heap.size) := HB.out.size
  go_wp2_with fail
  clear ST hB
  go_step3
  go_wp2_with fail
  go_loopw [13, 14] (fun im pl wr => ∃ (ts : List (List Img)) (A' : Nat) (q : Int) (k : Nat) (acc : List Img) (v : Value) (P M : Nat), ts.length ≤ C ∧ A' < C ∧ k < C ∧ (0 < k → ts.length < C) ∧ P ≤ 256 + 256 * ts.length + k ∧ pl = .int .i64 (P : Int) ∧ Hid (IsSeq q) ∧ Hid (acc.length = k) ∧ Hid (P % C = (A' + k) % C) ∧ Hid (RowC wr w.heap.size 48 (logD (.slice none 0 0) 0 0)) ∧ Hid (RowC wr B 48 (logD v A' q)) ∧ Hid (TxnsM wr w.heap.size M v ts) ∧ Hid (wr.ownsRow M 81 49 im (imgR acc).length (imgR acc).flatten) ∧ Hid (w.heap.size ≤ M ∧ M ≤ wr.heap.size) ∧ Hid (Below w.heap.size w wr) ∧ Hid (conGo rd F C (C - ts.length) ts A' q k acc = res)) (fun im _ wr => (C - lenAt wr B) * (C + 1) + (C - slLen im))
  case atStart => exact ⟨[], A, seq, 0, [], _, A, W.heap.size, Nat.zero_le _, hA, by omega, fun h => absurd h (by omega), by simp; omega, rfl, HSQ, rfl, rfl, RZ, RL, TxnsM.nil _ _ _, World.ownsRow_nil _ _ _ _, ⟨hNW.out, Nat.le_refl _⟩, HB, HR⟩
  case round =>
    obtain ⟨ts, A', q, k, acc, v, P, M, hk, hA', hkC, hk0, hP, rfl, HQ, HAC, HPM, HZ, HL, HT, HI, HM, HB, HG⟩ := hrel
    obtain ⟨vs, hvl, hvo, hvt⟩ := HT.out
    obtain ⟨ra, c, rfl, -⟩ := row_lenT hvo
    rw [hvl] at HL HT
    obtain ⟨ri, ci, him, -⟩ := row_lenT HI.out
    subst him
    have hil : (imgR acc).length = k := by rw [imgR_length]; exact HAC.out
    rw [hil] at HI
    have HIL := Lib.hid hil
    rw [hil]
    have c0 : wr.cell? ⟨B, 0, none⟩ = some (.slice ra ts.length c) := HL.out.cell 0 _ rfl
    have HLN : Hid (lenAt wr B = ts.length) := by show lenAt wr B = _; unfold lenAt; rw [c0]
    clear hvl hvo hvt hil
    by_cases hlt : ts.length < C
    · have g1 : decide ((ts.length : Int) < (C : Int)) = true := by simp; omega
      obtain ⟨i, hi⟩ : ∃ i, F + (A' + k) % C = i := ⟨_, rfl⟩
      have hin : i < S.n0 := by have := Nat.mod_lt (A' + k) (show 0 < C by omega); have := HFN.out; omega
      have HTG : Hid (turnG rd F C A' k = rd i) := by show rd (F + (A' + k) % C) = _; rw [hi]
      have HSEC : Hid (Calls Try.prog 36 #[.int .i64 (F : Int), .int .i64 (C : Int), .int .i64 (P : Int)] wr fun e w' => e = .returned (.int .i64 (i : Int)) ∧ w' = wr) := by
        have := rgSector (F := F) (C := C) (P := P) (by omega) hC hF4 (by omega) wr
        rwa [HPM.out, hi] at this
      have HR1 := Lib.hid (HRD.out wr i HB.out hin)
      obtain ⟨hbb, hbl⟩ := HBY2.out i hin
      have HIB := Lib.hid hbb
      have HIL2 := Lib.hid hbl
      clear hi hbb hbl hin
      obtain ⟨bs, hbs⟩ : ∃ bs, rd i = bs := ⟨_, rfl⟩
      rw [hbs] at HTG HR1 HIB HIL2
      clear hbs
      go_wp2_with fail
      go_at_call 36
      refine HSEC.out.mono ?_
      rintro e z ⟨rfl, hz⟩
      obtain rfl := hz.symm
      clear HSEC
      go_wp2_with fail
      go_at_call 23
      refine HR1.out.mono ?_
      rintro e x1 ⟨rfl, hb⟩
      obtain ⟨x2, ST2, hr2, hb2⟩ := new_blk x1 (isBlk_u8s HIL2.out)
      have b2 : Below wr.heap.size wr x2 := hb.trans (hb2.mono hb.size)
      have L2 := hr2.blk (by rw [u8s_length]; exact HIL2.out)
      have B2 := Lib.hid b2
      clear hb hb2 b2 hr2 HR1 HRD
      go_wp2_with fail
      clear ST2 L2
      go_at_call 37
      refine (pgDecode bs HIB.out HIL2.out x2).mono ?_
      rintro e x3 ⟨rfl, hb⟩
      have hPO := decS_ok HIB.out HIL2.out
      obtain ⟨x4, ST4, hr4, hb4⟩ := new_pg x3 (decS bs) hPO.len
      have b4 : Below wr.heap.size wr x4 := B2.out.trans ((hb.trans (hb4.mono hb.size)).mono B2.out.size)
      have L4 := hr4.pg hPO.len
      have c2 : x4.cell? ⟨B, 2, none⟩ = some (.int .u32 q) := (HL.out.below b4).cell 2 _ rfl
      obtain ⟨BP, hBP⟩ : ∃ b, x3.heap.size = b := ⟨_, rfl⟩
      rw [hBP] at ST4 hr4 L4
      have B4 := Lib.hid b4
      have R4 := Lib.hid hr4
      obtain ⟨p, hp⟩ : ∃ p, decS bs = p := ⟨_, rfl⟩
      rw [hp] at ST4 L4 R4 hPO ⊢
      have HP := Lib.hid hp
      have HPO := Lib.hid hPO
      clear hb hb4 b4 hr4 hPO hp B2 HIB HIL2
      obtain ⟨z, hz⟩ : ∃ z, (p.mark == 73 && p.seq == q) = z := ⟨_, rfl⟩
      have HII := Lib.hid (rgIsImage p HPO.out.len q x4)
      rw [hz] at HII
      have HZZ := Lib.hid hz
      clear hz
      go_wp2_with fail
      clear ST4
      go_at_call 38
      refine HII.out.mono ?_
      rintro e x5 ⟨rfl, hb⟩
      have B5 : Hid (Below wr.heap.size wr x5) := B4.out.trans (hb.mono B4.out.size)
      have R5 := Lib.hid (R4.out.below hb)
      have L5 := R5.out.pg HPO.out.len
      clear hb L4 c2 HII B4 R4 c0
      have HL5 := Lib.hid (HL.out.below B5.out)
      have HT5 := Lib.hid (HT.out.below B5.out)
      have HI5 := Lib.hid (own_below HI.out B5.out)
      have HZ5 := Lib.hid (HZ.out.below B5.out)
      have HB5 : Hid (Below w.heap.size w x5) := HB.out.trans (B5.out.mono HB.out.size)
      have HM5 : Hid (w.heap.size ≤ M ∧ M ≤ x5.heap.size) := ⟨HM.out.1, Nat.le_trans HM.out.2 B5.out.size⟩
      have hfuel : C - ts.length = (C - ts.length - 1) + 1 := by omega
      have HFU := Lib.hid hfuel
      clear hfuel HL HT HI HZ HB HM B5
      by_cases hA : (p.mark = 73 ∧ p.seq = q) ∧ k + 1 < C
      · have hzt : z = true := by rw [← HZZ.out, hA.1.1, hA.1.2]; simp
        subst hzt
        have hk1 := hA.2
        have g2 : decide ((k : Int) < (C : Int) - 1) = true := by simp; omega
        obtain ⟨X, hX⟩ : ∃ X : Img, X = ⟨p.index, p.body⟩ := ⟨_, rfl⟩
        have HGN : Hid (conGo rd F C (C - ts.length) ts A' q (k + 1) (acc ++ [X]) = res) := by
          show _ = _
          rw [← HG.out, HFU.out, hX, ← HP.out]
          exact (con_img HTG.out hA.2 (by rw [HP.out]; exact hA.1.1) (by rw [HP.out]; exact hA.1.2)).symm
        have hXc : X.cells = Value.int .i64 p.index :: u8s p.body := by rw [hX]; rfl
        have hXl : X.cells.length = 49 := Img.cells_length (by rw [hX]; exact HPO.out.len)
        have c3 : x5.cell? ⟨BP, 2, none⟩ = some (.int .i64 p.index) := R5.out.cell 2 _ rfl
        have LB := R5.out.bod HPO.out.len
        have BI : Hid ((Instr.build 81 #[(0, .int .i64 p.index), (1, .agg (u8s p.body).toArray)]).run Try.prog x5 = .ok (.agg X.cells.toArray) x5) := by
          show _ = _
          rw [hXc]
          exact build_imgD p.index (u8s p.body) (by rw [u8s_length]; exact HPO.out.len) x5
        obtain ⟨x6, hx6⟩ : ∃ x, x5.alloc (.cells X.cells.toArray 81) = x := ⟨_, rfl⟩
        have SB : Hid ((Instr.buildSlice 38 1 #[(0, .agg X.cells.toArray)]).run Try.prog x5 = .ok (.slice (some ⟨x5.heap.size, 0, none⟩) 1 1) x6) := by show _ = _; rw [← hx6]; exact slice_imgD x5 _ hXl
        have b6 : Below x5.heap.size x5 x6 := by rw [← hx6]; exact below_new x5 _
        have hI6 := own_below HI5.out b6
        have hM6 : M ≤ x6.heap.size := Nat.le_trans HM5.out.2 b6.size
        obtain ⟨v7, x7, r7, o7, g7, -⟩ := append_imgD M x6 (.slice ri k ci) (imgR acc) X.cells x5.heap.size (by rw [HIL.out]; exact hI6) hXl (Img.cells_one X) (row_range (t := 81) (by rw [← hx6]; exact heap_alloc_new x5 _)) (by rw [HIL.out]; omega) hM6
        have e7 : imgR acc ++ [X.cells] = imgR (acc ++ [X]) := by unfold imgR; rw [List.map_append]; rfl
        rw [e7] at o7
        have R7 := Lib.hid r7
        have HL7 := Lib.hid ((HL5.out.below b6).grown g7 (row_ne hI6 (HL5.out.below b6) (by decide)))
        have HZ7 := Lib.hid ((HZ5.out.below b6).grown g7 (row_ne hI6 (HZ5.out.below b6) (by decide)))
        have HT7 := Lib.hid ((HT5.out.below b6).grownI hI6 g7)
        have HI7 := Lib.hid o7
        have hb6 : Below w.heap.size w x6 := HB5.out.trans (b6.mono HB5.out.size)
        have HB7 : Hid (Below w.heap.size w x7) := hb6.grown g7 hb6.size (fun j e => Nat.le_trans HM5.out.1 (hI6.lt j e).1)
        have HM7 : Hid (w.heap.size ≤ M ∧ M ≤ x7.heap.size) := ⟨HM5.out.1, Nat.le_trans hM6 g7.size⟩
        have HA7 : Hid ((acc ++ [X]).length = k + 1) := by show _ = _; rw [List.length_append, HAC.out]; rfl
        have HPM7 : Hid ((P + 1) % C = (A' + (k + 1)) % C) := by show _ = _; rw [Nat.add_mod, HPM.out, ← Nat.add_mod, Nat.add_assoc]
        obtain ⟨r8, c8, hv8, -⟩ := row_lenT o7
        rw [imgR_length, HA7.out] at hv8
        subst hv8
        have HLN7 : Hid (lenAt x7 B = ts.length) := by show lenAt x7 B = _; unfold lenAt; rw [HL7.out.cell 0 _ rfl]
        clear hA hX hXc hXl hx6 b6 hI6 hM6 r7 o7 g7 e7 hb6 L5
        go_wp2_with (first | ((with_reducible refine gate_struct 81 ?_); refine wpList_struct_run _ _ rfl rfl [(0, .int .i64 p.index), (1, .agg (u8s p.body).toArray)] _ rfl BI.out ?_) | ((with_reducible refine gate_build ?_); refine wpList_build_run _ _ _ rfl rfl [(0, .agg X.cells.toArray)] _ rfl SB.out ?_) | (at_builtin; refine wpList_append_run (.tmp 67) (.tmp 73) 38 rfl rfl _ _ _ rfl rfl R7.out ?_))
        go_roundw
        case rel => exact ⟨ts, A', q, k + 1, acc ++ [X], _, P + 1, M, hk, hA', hk1, fun _ => hlt, by omega, by go_num, HQ, HA7, HPM7, HZ7, HL7, HT7, HI7, HM7, HB7, HGN⟩
        case measure =>
          rw [HLN7.out, HLN.out]
          show _ + (C - (k + 1)) < _ + (C - k)
          omega
      · have HNA := Lib.hid hA
        have hcase : z = false ∨ (z = true ∧ ¬ k + 1 < C) := by
          cases hzc : z with
          | false => exact .inl rfl
          | true =>
            right
            refine ⟨rfl, fun hk1 => hA ⟨?_, hk1⟩⟩
            have := HZZ.out
            rw [hzc] at this
            simpa using this
        clear hA
        rcases hcase with hz | ⟨hz, hk1⟩
        · subst hz
          by_cases hk0' : 0 < k
          · have g3 : decide (0 < (k : Int)) = true := by simp; omega
            have g3' : decide ((k : Int) > 0) = true := g3
            have KP : ∀ x : Ext x5, (loadVar 107 ⟨BP, 0, none⟩).run Try.prog x.1 = .ok (.agg p.cells.toArray) x.1 := fun x => (R5.out.below x.2).pg HPO.out.len
            have KQ : ∀ x : Ext x5, x.1.cell? ⟨B, 2, none⟩ = some (.int .u32 q) := fun x => (HL5.out.below x.2).cell 2 _ rfl
            have KE : ∀ x : Ext x5, (Op.equalIn 10000 107 (.agg p.cells.toArray) (.agg (comSct q k).cells.toArray)).run Try.prog x.1 = .ok (sameS p (comSct q k)) x.1 := fun x => eq_sec HPO.out.len (by simp [comSct]) x.1
            have KC : Hid (∀ x : Ext x5, Calls Try.prog 39 #[.int .u32 q, .int .i64 (k : Int)] x.1 fun e w'' => e = .returned (.agg (comSct q k).cells.toArray) ∧ ∃ y : Ext x5, w'' = y.1) := fun x => calls_ext x (rgCommit q k x.1)
            obtain ⟨y, hy⟩ : ∃ y, sameS p (comSct q k) = y := ⟨_, rfl⟩
            rw [hy] at KE
            go_wp2_with fail
            refine region_ext (by kernel_rfl) (by kernel_rfl) ?_
            repeat (go_big_quiet_step (with_reducible (first | exact KC.out _)))
            refine wpQuiet_nil ?_
            intro x
            clear KP KQ KE KC L5
            cases y with
            | true =>
              have hpe : p = comSct q k := sameS_iff.1 hy
              have hb0 := x.2
              obtain ⟨y0, hy0⟩ : ∃ y0, x.1 = y0 := ⟨_, rfl⟩
              rw [hy0] at hb0 ⊢
              have hL0 := HL5.out.below hb0
              have hZ0 := HZ5.out.below hb0
              have hT0 := HT5.out.below hb0
              have hI0 := own_below HI5.out hb0
              have hB0 : Below w.heap.size w y0 := HB5.out.trans (hb0.mono HB5.out.size)
              have hM0 : M ≤ y0.heap.size := Nat.le_trans HM5.out.2 hb0.size
              have c0 : y0.cell? ⟨B, 0, none⟩ = some (.slice ra ts.length c) := hL0.cell 0 _ rfl
              obtain ⟨A2, hA2'⟩ : ∃ n, (A' + k + 1) % C = n := ⟨_, rfl⟩
              have hA2l : A2 < C := by rw [← hA2']; exact Nat.mod_lt _ (by omega)
              have hP2 : (P + 1) % C = A2 := by rw [Nat.add_mod, HPM.out, ← Nat.add_mod, hA2']
              have hA2 : ((P : Int) + 1) % (C : Int) = (A2 : Int) := by rw [← hP2, Int.natCast_emod]; norm_cast
              obtain ⟨q2, hq2⟩ : ∃ n, (q + 1) % 4294967296 = n := ⟨_, rfl⟩
              have hq2s : Hid (IsSeq q2) := by show IsSeq q2; unfold IsSeq; omega
              have HGN : Hid (conGo rd F C (C - (ts ++ [acc]).length) (ts ++ [acc]) A2 q2 0 [] = res) := by
                show _ = _
                rw [con_start, ← HG.out, HFU.out, con_com HTG.out hkC hk0' HAC.out (by rw [HP.out]; exact hpe), hA2', hq2, List.length_append]
                rfl
              obtain ⟨y1, hy1⟩ : ∃ y, y0.alloc (.cells #[.slice ri k ci] 38) = y := ⟨_, rfl⟩
              have SB : Hid ((Instr.buildSlice 46 1 #[(0, .slice ri k ci)]).run Try.prog y0 = .ok (.slice (some ⟨y0.heap.size, 0, none⟩) 1 1) y1) := by show _ = _; rw [← hy1]; exact slice_slsD y0 _ _ _
              have b1 : Below y0.heap.size y0 y1 := by rw [← hy1]; exact below_new y0 _
              have rN : RowC y1 y0.heap.size 38 [.slice ri k ci] := by rw [← hy1]; exact RowC.new y0 _ _
              have hT1 := hT0.below b1
              have hI1 := own_below hI0 b1
              obtain ⟨v2, y2, r2, t2, g2⟩ := append_slsM (t := acc) (a := ri) (c := ci) (B := y0.heap.size) hT1 (by rw [HAC.out]; exact hI1) HM5.out.1 (Nat.le_trans hM0 b1.size) (by rw [HAC.out]; exact rN) (by omega)
              have hB1 : Below w.heap.size w y1 := hB0.trans (b1.mono hB0.size)
              obtain ⟨_, hw1, hw2, _⟩ := hT1
              rw [hw1] at hw2
              have hB2 : Below w.heap.size w y2 := hB1.grown g2 hB1.size (fun j e => (hw2.lt j e).1)
              have L2 := (hL0.below b1).grown g2 (row_ne hw2 (hL0.below b1) (by decide))
              have Z2 := (hZ0.below b1).grown g2 (row_ne hw2 (hZ0.below b1) (by decide))
              have hvv : ∃ ra' c', v2 = .slice ra' (ts.length + 1) c' := by
                obtain ⟨vs', hv1, hv2, _⟩ := t2
                obtain ⟨ra', c', rfl, -⟩ := row_lenT hv2
                rw [hv1, List.length_append]
                exact ⟨ra', c', rfl⟩
              obtain ⟨ra', c', rfl⟩ := hvv
              have R2 := Lib.hid r2
              obtain ⟨x4, hx4⟩ : ∃ x, y2.setCell ⟨B, 0, none⟩ (.slice ra' (ts.length + 1) c') = x := ⟨_, rfl⟩
              obtain ⟨x7, hx7⟩ : ∃ x, x4.setCell ⟨B, 1, none⟩ (.int .i64 (A2 : Int)) = x := ⟨_, rfl⟩
              obtain ⟨x6, hx6⟩ : ∃ x, x7.setCell ⟨B, 2, none⟩ (.int .u32 q2) = x := ⟨_, rfl⟩
              have L4 : RowC x4 B 48 (logD (.slice ra' (ts.length + 1) c') A' q) := by rw [← hx4]; exact L2.set 0 _
              have L7 : RowC x7 B 48 (logD (.slice ra' (ts.length + 1) c') A2 q) := by rw [← hx7]; exact L4.set 1 _
              have L6 : RowC x6 B 48 (logD (.slice ra' (ts.length + 1) c') A2 q2) := by rw [← hx6]; exact L7.set 2 _
              have G4 : y2.grownBy x4 (some B) := by rw [← hx4]; exact grownBy_setCellJ y2 B 0 _
              have G7 : x4.grownBy x7 (some B) := by rw [← hx7]; exact grownBy_setCellJ x4 B 1 _
              have G6 : x7.grownBy x6 (some B) := by rw [← hx6]; exact grownBy_setCellJ x7 B 2 _
              have G := (G4.trans G7).trans G6
              have T6 := Lib.hid (t2.grownC L2 (by decide) (by decide) G)
              have hBw : w.heap.size ≤ B := Nat.le_of_lt hne
              have B6 : Hid (Below w.heap.size w x6) := hB2.grown G hB2.size (fun j e => by cases e; exact hBw)
              have Z6 := Lib.hid (Z2.grown G (by simpa using fun e => Nat.ne_of_gt hne e))
              have L6' := Lib.hid L6
              have M6 : Hid (w.heap.size ≤ y1.heap.size ∧ y1.heap.size ≤ x6.heap.size) := ⟨hB1.size, Nat.le_trans g2.size G.size⟩
              have d0 : y2.cell? ⟨B, 0, none⟩ = some (.slice ra ts.length c) := L2.cell 0 _ rfl
              have d0' := L2.frozen 0
              have d1 : x4.cell? ⟨B, 1, none⟩ = some (.int .i64 (A' : Int)) := L4.cell 1 _ rfl
              have d1' := L4.frozen 1
              have d2 : x7.cell? ⟨B, 2, none⟩ = some (.int .u32 q) := L7.cell 2 _ rfl
              have d2' := L7.frozen 2
              have HLN6 : Hid (lenAt x6 B = ts.length + 1) := by show lenAt x6 B = _; unfold lenAt; rw [L6.cell 0 _ rfl]
              have HPM6 : Hid ((P + 1) % C = (A2 + 0) % C) := by show _ = _; rw [hP2, Nat.add_zero, Nat.mod_eq_of_lt hA2l]
              have hCz : ¬ ((C : Int) = 0) := by omega
              clear hpe hy hb0 hL0 hZ0 hT0 hI0 hB0 hM0 hA2' hP2 hy1 b1 rN hI1 t2 g2 hw1 hw2 hB1 hB2 L2 Z2 r2 L4 L7 L6 G4 G7 G6 G hy0
              go_wp2_with (first | ((with_reducible refine gate_build ?_); refine wpList_build_run _ _ _ rfl rfl [(0, .slice ri k ci)] _ rfl SB.out ?_) | (at_builtin; refine wpList_append_run (.tmp 89) (.tmp 91) 46 rfl rfl _ _ _ rfl rfl R2.out ?_))
              go_roundw
              case rel => exact ⟨ts ++ [acc], A2, q2, 0, [], _, P + 1, y1.heap.size, by rw [List.length_append]; simp; omega, hA2l, by omega, fun h => absurd h (by omega), by rw [List.length_append]; simp; omega, by go_num, hq2s, rfl, HPM6, Z6, L6', T6, World.ownsRow_nil _ _ _ _, M6, B6, HGN⟩
              case measure =>
                rw [HLN6.out, HLN.out]
                have e : C - ts.length = (C - (ts.length + 1)) + 1 := by omega
                show (C - (ts.length + 1)) * (C + 1) + (C - 0) < (C - ts.length) * (C + 1) + (C - k)
                rw [e, Nat.add_mul]
                omega
            | false =>
              have hst : res = (ts, A', q) := by
                rw [← HG.out, HFU.out]
                exact con_stop HTG.out hkC (by rw [HP.out]; exact HNA.out) (by rw [HP.out]; rintro ⟨_, h2⟩; rw [sameS_iff.2 h2] at hy; cases hy)
              subst hst
              have hb0 := x.2
              obtain ⟨y0, hy0⟩ : ∃ y0, x.1 = y0 := ⟨_, rfl⟩
              rw [hy0] at hb0 ⊢
              have hL0 := HL5.out.below hb0
              have hZ0 := HZ5.out.below hb0
              have LL := load_logD hL0
              obtain ⟨y2, ST, hy2, hg⟩ := store_logD (v := .slice ra ts.length c) (a := A') (q := q) hZ0 rfl rfl
              have LY := load_logD hy2
              have hty : Hid (TxnsR 38 81 y2 w.heap.size (.slice ra ts.length c) ts) := ((HT5.out.below hb0).grownC hZ0 (by decide) (by decide) hg).toR
              have hbb := HB5.out.trans (hb0.mono HB5.out.size)
              have hby : Hid (Below w.heap.size w y2) := hbb.grown hg hbb.size (fun j e => by cases e; exact Nat.le_refl _)
              clear hg hbb hL0 hZ0 hb0 hy0 hy2
              go_wp2_with fail
              try rw [Exit.noGoto_ret]
              refine bodyPost_ret (results_cell2 rfl rfl LY) rfl ⟨⟨_, rfl, hty.out⟩, hby.out⟩
          · have g3 : decide (0 < (k : Int)) = false := by simp; omega
            have g3' : decide ((k : Int) > 0) = false := g3
            go_wp2_with fail
            refine region_ext (by kernel_rfl) (by kernel_rfl) ?_
            repeat (go_big_quiet_step (fail))
            refine wpQuiet_nil ?_
            intro x
            have hst : res = (ts, A', q) := by
              rw [← HG.out, HFU.out]
              exact con_stop HTG.out hkC (by rw [HP.out]; exact HNA.out) (by rintro ⟨h1, _⟩; exact hk0' h1)
            subst hst
            have hb0 := x.2
            obtain ⟨y0, hy0⟩ : ∃ y0, x.1 = y0 := ⟨_, rfl⟩
            rw [hy0] at hb0 ⊢
            have hL0 := HL5.out.below hb0
            have hZ0 := HZ5.out.below hb0
            have LL := load_logD hL0
            obtain ⟨y2, ST, hy2, hg⟩ := store_logD (v := .slice ra ts.length c) (a := A') (q := q) hZ0 rfl rfl
            have LY := load_logD hy2
            have hty : Hid (TxnsR 38 81 y2 w.heap.size (.slice ra ts.length c) ts) := ((HT5.out.below hb0).grownC hZ0 (by decide) (by decide) hg).toR
            have hbb := HB5.out.trans (hb0.mono HB5.out.size)
            have hby : Hid (Below w.heap.size w y2) := hbb.grown hg hbb.size (fun j e => by cases e; exact Nat.le_refl _)
            clear hg hbb hL0 hZ0 hb0 hy0 hy2
            go_wp2_with fail
            try rw [Exit.noGoto_ret]
            refine bodyPost_ret (results_cell2 rfl rfl LY) rfl ⟨⟨_, rfl, hty.out⟩, hby.out⟩
        · subst hz
          have g2 : decide ((k : Int) < (C : Int) - 1) = false := by simp; omega
          by_cases hk0' : 0 < k
          · have g3 : decide (0 < (k : Int)) = true := by simp; omega
            have g3' : decide ((k : Int) > 0) = true := g3
            have KP : ∀ x : Ext x5, (loadVar 107 ⟨BP, 0, none⟩).run Try.prog x.1 = .ok (.agg p.cells.toArray) x.1 := fun x => (R5.out.below x.2).pg HPO.out.len
            have KQ : ∀ x : Ext x5, x.1.cell? ⟨B, 2, none⟩ = some (.int .u32 q) := fun x => (HL5.out.below x.2).cell 2 _ rfl
            have KE : ∀ x : Ext x5, (Op.equalIn 10000 107 (.agg p.cells.toArray) (.agg (comSct q k).cells.toArray)).run Try.prog x.1 = .ok (sameS p (comSct q k)) x.1 := fun x => eq_sec HPO.out.len (by simp [comSct]) x.1
            have KC : Hid (∀ x : Ext x5, Calls Try.prog 39 #[.int .u32 q, .int .i64 (k : Int)] x.1 fun e w'' => e = .returned (.agg (comSct q k).cells.toArray) ∧ ∃ y : Ext x5, w'' = y.1) := fun x => calls_ext x (rgCommit q k x.1)
            obtain ⟨y, hy⟩ : ∃ y, sameS p (comSct q k) = y := ⟨_, rfl⟩
            rw [hy] at KE
            go_wp2_with fail
            refine region_ext (by kernel_rfl) (by kernel_rfl) ?_
            repeat (go_big_quiet_step (with_reducible (first | exact KC.out _)))
            refine wpQuiet_nil ?_
            intro x
            clear KP KQ KE KC L5
            cases y with
            | true =>
              have hpe : p = comSct q k := sameS_iff.1 hy
              have hb0 := x.2
              obtain ⟨y0, hy0⟩ : ∃ y0, x.1 = y0 := ⟨_, rfl⟩
              rw [hy0] at hb0 ⊢
              have hL0 := HL5.out.below hb0
              have hZ0 := HZ5.out.below hb0
              have hT0 := HT5.out.below hb0
              have hI0 := own_below HI5.out hb0
              have hB0 : Below w.heap.size w y0 := HB5.out.trans (hb0.mono HB5.out.size)
              have hM0 : M ≤ y0.heap.size := Nat.le_trans HM5.out.2 hb0.size
              have c0 : y0.cell? ⟨B, 0, none⟩ = some (.slice ra ts.length c) := hL0.cell 0 _ rfl
              obtain ⟨A2, hA2'⟩ : ∃ n, (A' + k + 1) % C = n := ⟨_, rfl⟩
              have hA2l : A2 < C := by rw [← hA2']; exact Nat.mod_lt _ (by omega)
              have hP2 : (P + 1) % C = A2 := by rw [Nat.add_mod, HPM.out, ← Nat.add_mod, hA2']
              have hA2 : ((P : Int) + 1) % (C : Int) = (A2 : Int) := by rw [← hP2, Int.natCast_emod]; norm_cast
              obtain ⟨q2, hq2⟩ : ∃ n, (q + 1) % 4294967296 = n := ⟨_, rfl⟩
              have hq2s : Hid (IsSeq q2) := by show IsSeq q2; unfold IsSeq; omega
              have HGN : Hid (conGo rd F C (C - (ts ++ [acc]).length) (ts ++ [acc]) A2 q2 0 [] = res) := by
                show _ = _
                rw [con_start, ← HG.out, HFU.out, con_com HTG.out hkC hk0' HAC.out (by rw [HP.out]; exact hpe), hA2', hq2, List.length_append]
                rfl
              obtain ⟨y1, hy1⟩ : ∃ y, y0.alloc (.cells #[.slice ri k ci] 38) = y := ⟨_, rfl⟩
              have SB : Hid ((Instr.buildSlice 46 1 #[(0, .slice ri k ci)]).run Try.prog y0 = .ok (.slice (some ⟨y0.heap.size, 0, none⟩) 1 1) y1) := by show _ = _; rw [← hy1]; exact slice_slsD y0 _ _ _
              have b1 : Below y0.heap.size y0 y1 := by rw [← hy1]; exact below_new y0 _
              have rN : RowC y1 y0.heap.size 38 [.slice ri k ci] := by rw [← hy1]; exact RowC.new y0 _ _
              have hT1 := hT0.below b1
              have hI1 := own_below hI0 b1
              obtain ⟨v2, y2, r2, t2, g2⟩ := append_slsM (t := acc) (a := ri) (c := ci) (B := y0.heap.size) hT1 (by rw [HAC.out]; exact hI1) HM5.out.1 (Nat.le_trans hM0 b1.size) (by rw [HAC.out]; exact rN) (by omega)
              have hB1 : Below w.heap.size w y1 := hB0.trans (b1.mono hB0.size)
              obtain ⟨_, hw1, hw2, _⟩ := hT1
              rw [hw1] at hw2
              have hB2 : Below w.heap.size w y2 := hB1.grown g2 hB1.size (fun j e => (hw2.lt j e).1)
              have L2 := (hL0.below b1).grown g2 (row_ne hw2 (hL0.below b1) (by decide))
              have Z2 := (hZ0.below b1).grown g2 (row_ne hw2 (hZ0.below b1) (by decide))
              have hvv : ∃ ra' c', v2 = .slice ra' (ts.length + 1) c' := by
                obtain ⟨vs', hv1, hv2, _⟩ := t2
                obtain ⟨ra', c', rfl, -⟩ := row_lenT hv2
                rw [hv1, List.length_append]
                exact ⟨ra', c', rfl⟩
              obtain ⟨ra', c', rfl⟩ := hvv
              have R2 := Lib.hid r2
              obtain ⟨x4, hx4⟩ : ∃ x, y2.setCell ⟨B, 0, none⟩ (.slice ra' (ts.length + 1) c') = x := ⟨_, rfl⟩
              obtain ⟨x7, hx7⟩ : ∃ x, x4.setCell ⟨B, 1, none⟩ (.int .i64 (A2 : Int)) = x := ⟨_, rfl⟩
              obtain ⟨x6, hx6⟩ : ∃ x, x7.setCell ⟨B, 2, none⟩ (.int .u32 q2) = x := ⟨_, rfl⟩
              have L4 : RowC x4 B 48 (logD (.slice ra' (ts.length + 1) c') A' q) := by rw [← hx4]; exact L2.set 0 _
              have L7 : RowC x7 B 48 (logD (.slice ra' (ts.length + 1) c') A2 q) := by rw [← hx7]; exact L4.set 1 _
              have L6 : RowC x6 B 48 (logD (.slice ra' (ts.length + 1) c') A2 q2) := by rw [← hx6]; exact L7.set 2 _
              have G4 : y2.grownBy x4 (some B) := by rw [← hx4]; exact grownBy_setCellJ y2 B 0 _
              have G7 : x4.grownBy x7 (some B) := by rw [← hx7]; exact grownBy_setCellJ x4 B 1 _
              have G6 : x7.grownBy x6 (some B) := by rw [← hx6]; exact grownBy_setCellJ x7 B 2 _
              have G := (G4.trans G7).trans G6
              have T6 := Lib.hid (t2.grownC L2 (by decide) (by decide) G)
              have hBw : w.heap.size ≤ B := Nat.le_of_lt hne
              have B6 : Hid (Below w.heap.size w x6) := hB2.grown G hB2.size (fun j e => by cases e; exact hBw)
              have Z6 := Lib.hid (Z2.grown G (by simpa using fun e => Nat.ne_of_gt hne e))
              have L6' := Lib.hid L6
              have M6 : Hid (w.heap.size ≤ y1.heap.size ∧ y1.heap.size ≤ x6.heap.size) := ⟨hB1.size, Nat.le_trans g2.size G.size⟩
              have d0 : y2.cell? ⟨B, 0, none⟩ = some (.slice ra ts.length c) := L2.cell 0 _ rfl
              have d0' := L2.frozen 0
              have d1 : x4.cell? ⟨B, 1, none⟩ = some (.int .i64 (A' : Int)) := L4.cell 1 _ rfl
              have d1' := L4.frozen 1
              have d2 : x7.cell? ⟨B, 2, none⟩ = some (.int .u32 q) := L7.cell 2 _ rfl
              have d2' := L7.frozen 2
              have HLN6 : Hid (lenAt x6 B = ts.length + 1) := by show lenAt x6 B = _; unfold lenAt; rw [L6.cell 0 _ rfl]
              have HPM6 : Hid ((P + 1) % C = (A2 + 0) % C) := by show _ = _; rw [hP2, Nat.add_zero, Nat.mod_eq_of_lt hA2l]
              have hCz : ¬ ((C : Int) = 0) := by omega
              clear hpe hy hb0 hL0 hZ0 hT0 hI0 hB0 hM0 hA2' hP2 hy1 b1 rN hI1 t2 g2 hw1 hw2 hB1 hB2 L2 Z2 r2 L4 L7 L6 G4 G7 G6 G hy0
              go_wp2_with (first | ((with_reducible refine gate_build ?_); refine wpList_build_run _ _ _ rfl rfl [(0, .slice ri k ci)] _ rfl SB.out ?_) | (at_builtin; refine wpList_append_run (.tmp 89) (.tmp 91) 46 rfl rfl _ _ _ rfl rfl R2.out ?_))
              go_roundw
              case rel => exact ⟨ts ++ [acc], A2, q2, 0, [], _, P + 1, y1.heap.size, by rw [List.length_append]; simp; omega, hA2l, by omega, fun h => absurd h (by omega), by rw [List.length_append]; simp; omega, by go_num, hq2s, rfl, HPM6, Z6, L6', T6, World.ownsRow_nil _ _ _ _, M6, B6, HGN⟩
              case measure =>
                rw [HLN6.out, HLN.out]
                have e : C - ts.length = (C - (ts.length + 1)) + 1 := by omega
                show (C - (ts.length + 1)) * (C + 1) + (C - 0) < (C - ts.length) * (C + 1) + (C - k)
                rw [e, Nat.add_mul]
                omega
            | false =>
              have hst : res = (ts, A', q) := by
                rw [← HG.out, HFU.out]
                exact con_stop HTG.out hkC (by rw [HP.out]; exact HNA.out) (by rw [HP.out]; rintro ⟨_, h2⟩; rw [sameS_iff.2 h2] at hy; cases hy)
              subst hst
              have hb0 := x.2
              obtain ⟨y0, hy0⟩ : ∃ y0, x.1 = y0 := ⟨_, rfl⟩
              rw [hy0] at hb0 ⊢
              have hL0 := HL5.out.below hb0
              have hZ0 := HZ5.out.below hb0
              have LL := load_logD hL0
              obtain ⟨y2, ST, hy2, hg⟩ := store_logD (v := .slice ra ts.length c) (a := A') (q := q) hZ0 rfl rfl
              have LY := load_logD hy2
              have hty : Hid (TxnsR 38 81 y2 w.heap.size (.slice ra ts.length c) ts) := ((HT5.out.below hb0).grownC hZ0 (by decide) (by decide) hg).toR
              have hbb := HB5.out.trans (hb0.mono HB5.out.size)
              have hby : Hid (Below w.heap.size w y2) := hbb.grown hg hbb.size (fun j e => by cases e; exact Nat.le_refl _)
              clear hg hbb hL0 hZ0 hb0 hy0 hy2
              go_wp2_with fail
              try rw [Exit.noGoto_ret]
              refine bodyPost_ret (results_cell2 rfl rfl LY) rfl ⟨⟨_, rfl, hty.out⟩, hby.out⟩
          · have g3 : decide (0 < (k : Int)) = false := by simp; omega
            have g3' : decide ((k : Int) > 0) = false := g3
            go_wp2_with fail
            refine region_ext (by kernel_rfl) (by kernel_rfl) ?_
            repeat (go_big_quiet_step (fail))
            refine wpQuiet_nil ?_
            intro x
            have hst : res = (ts, A', q) := by
              rw [← HG.out, HFU.out]
              exact con_stop HTG.out hkC (by rw [HP.out]; exact HNA.out) (by rintro ⟨h1, _⟩; exact hk0' h1)
            subst hst
            have hb0 := x.2
            obtain ⟨y0, hy0⟩ : ∃ y0, x.1 = y0 := ⟨_, rfl⟩
            rw [hy0] at hb0 ⊢
            have hL0 := HL5.out.below hb0
            have hZ0 := HZ5.out.below hb0
            have LL := load_logD hL0
            obtain ⟨y2, ST, hy2, hg⟩ := store_logD (v := .slice ra ts.length c) (a := A') (q := q) hZ0 rfl rfl
            have LY := load_logD hy2
            have hty : Hid (TxnsR 38 81 y2 w.heap.size (.slice ra ts.length c) ts) := ((HT5.out.below hb0).grownC hZ0 (by decide) (by decide) hg).toR
            have hbb := HB5.out.trans (hb0.mono HB5.out.size)
            have hby : Hid (Below w.heap.size w y2) := hbb.grown hg hbb.size (fun j e => by cases e; exact Nat.le_refl _)
            clear hg hbb hL0 hZ0 hb0 hy0 hy2
            go_wp2_with fail
            try rw [Exit.noGoto_ret]
            refine bodyPost_ret (results_cell2 rfl rfl LY) rfl ⟨⟨_, rfl, hty.out⟩, hby.out⟩
    · have hk00 : k = 0 := by
        rcases Nat.eq_zero_or_pos k with h | h
        · exact h
        · exact absurd (hk0 h) hlt
      have hst : res = (ts, A', q) := by
        rw [← HG.out, show C - ts.length = 0 by omega]
        rfl
      subst hst
      have g1 : decide ((ts.length : Int) < (C : Int)) = false := by simp; omega
      have LL := load_logD HL.out
      obtain ⟨y2, ST, hy2, hg⟩ := store_logD (v := .slice ra ts.length c) (a := A') (q := q) HZ.out rfl rfl
      have LY := load_logD hy2
      have hty : Hid (TxnsR 38 81 y2 w.heap.size (.slice ra ts.length c) ts) := (HT.out.grownC HZ.out (by decide) (by decide) hg).toR
      have hby : Hid (Below w.heap.size w y2) := HB.out.grown hg HB.out.size (fun j e => by cases e; exact Nat.le_refl _)
      clear hg hy2
      go_wp2_with fail
      try rw [Exit.noGoto_ret]
      refine bodyPost_ret (results_cell2 rfl rfl LY) rfl ⟨⟨_, rfl, hty.out⟩, hby.out⟩
end Go.Proofs.Ytfmgaakbfphpbaa

/- The developers' ring keeps its promises. -/
namespace Go.Proofs.Ytfmgaakbfphpbaa
open Go.RowKit
set_option linter.unusedVariables false

theorem ringOk : RingOk where
  replay := fun h hby hup _ _ _ hC2 hC hF hA hn _ hs => rgReplay h hby hup hC2 hC hF hA hn hs
  replay_no := fun h hn _ _ _ _ hm => rgReplay_no0 hn (fun x hx => (h.beside hx).len 0) hm
  replay_nil := fun frm count at0 seq w => rgReplay_no0 (n0 := 0) (by omega) (fun x _ => nil_len 0 x) (by unfold mayR; exact decide_eq_false (by omega))
  append := fun h hfu hd0 hd1 hf _ _ _ hC2 hC hF hA hn _ hs _ ht _ _ hg hgl hgf => rgAppend h hfu hd0 hd1 hf hC2 hC hF hA hn hs ht hg hgl hgf
  append_no := fun h hn _ _ _ _ hm _ _ _ _ => rgAppend_no h hn hm
  append_nil := fun frm count at0 seq w _ _ _ _ => rgAppend_nil frm count at0 seq w
  append_long := fun h hn _ _ _ hC2 hC hF hA _ _ _ _ hl hnb => rgAppend_long h hn hC2 hC hF hA hl hnb
  append_bad := fun h hn _ _ _ hC2 hC hF hA _ hs _ n1 n2 hok hbad _ _ hg hgl => rgAppend_bad h hn hC2 hC hF hA hs n1 n2 hok hbad hg hgl
end Go.Proofs.Ytfmgaakbfphpbaa

/- Transactions appended one by one to a ring that a statement has made. -/
namespace Go.Proofs.Ytfmgaakbfphpbaa
open Go.RowKit
set_option linter.unusedVariables false

/-- Where the next transaction goes. -/
def nx (C P : Nat) (q0 : Int) (ts : List (List Img)) : Nat := (P + (layB q0 ts).length) % C
/-- These transactions have been appended to a new ring, and nothing else has happened. -/
structure Ln (n0 F C P : Nat) (q0 : Int) (ts : List (List Img)) (S : RS) : Prop where
  ring : RingIs S F C P q0 ts
  rest : RestZ S F C P (layB q0 ts).length
  up : S.Up
  few : S.Few (2 * ts.length)
  d0 : 0 ≤ S.done
  d1 : S.done ≤ 402 * ts.length
  bb : S.BB
  n0 : S.n0 = n0
  dry : ∀ i, i < S.n0 → (S.D0 i).vs = []
theorem Ln.new {n0 n1 F C P : Nat} {q0 : Int} (h1 : F + C ≤ n0) (h2 : 2 ≤ C) (h3 : C ≤ 256) (h4 : P < C) (hq : IsSeq q0) : Ln n0 F C P q0 [] (newS n0 n1) :=
  ⟨newS_ring h1 h2 h3 h4 hq, newS_restZ _ _ _ _ _, newS_up _ _, few_newS _ _ _, Int.le_refl _, Int.le_refl _, newS_bb _ _, rfl, fun _ _ => rfl⟩
theorem layB_snoc {q0 : Int} (hq : IsSeq q0) (ts : List (List Img)) (t : List Img) : (layB q0 (ts ++ [t])).length = (layB q0 ts).length + t.length + 1 := by
  rw [layB_append _ _ _ hq, layB_one, List.length_append, txnB_length]
  omega
theorem nx_snoc {C P : Nat} {q0 : Int} (hq : IsSeq q0) (ts : List (List Img)) (t : List Img) : (nx C P q0 ts + t.length + 1) % C = nx C P q0 (ts ++ [t]) := by
  unfold nx
  rw [layB_snoc hq, Nat.add_assoc, Nat.mod_add_mod]
  congr 1
  omega
theorem layB_le : ∀ (ts : List (List Img)) (q : Int), (∀ t ∈ ts, t.length ≤ 5) → (layB q ts).length ≤ 6 * ts.length
  | [], _, _ => Nat.le_refl _
  | t :: ts, q, h => by
    show (txnB q t ++ _).length ≤ _
    have h1 := layB_le ts ((q + 1) % 4294967296) (fun u hu => h u (List.mem_cons_of_mem _ hu))
    have h2 := h t List.mem_cons_self
    rw [List.length_append, txnB_length, List.length_cons]
    omega
section
variable {n0 F C P : Nat} {q0 : Int} {ts : List (List Img)} {S : RS} {t : List Img}
theorem Ln.nx_lt (h : Ln n0 F C P q0 ts S) : nx C P q0 ts < C := Nat.mod_lt _ (by have := h.ring.two; omega)
theorem Ln.app (h : Ln n0 F C P q0 ts S) (ht : TxnOk C t) (hfit : (layB q0 ts).length + t.length + 1 ≤ C) (hts : ts.length ≤ 100) :
    (S.app F C (nx C P q0 ts) (seqAt q0 ts.length) t).2 = 0 ∧ Ln n0 F C P q0 (ts ++ [t]) (S.app F C (nx C P q0 ts) (seqAt q0 ts.length) t).1 := by
  have hr := h.ring.room
  have h2 := h.ring.two
  have h3 := h.ring.most
  have hf : ∀ i, i < S.n0 → (S.D0 i).vs.length ≤ 255 := fun i hi => by rw [h.dry i hi]; exact Nat.zero_le _
  obtain ⟨e0, hup⟩ := RS.app_up (S := S) (frm := F) (count := C) (at0 := nx C P q0 ts) (seq := seqAt q0 ts.length) (t := t) h.up (by omega) hr
  have hs := (RS.app_cases (S := S) (frm := F) (at0 := nx C P q0 ts) (seq := seqAt q0 ts.length) (t := t) (show 0 < C by omega) hr).1
  have hto := RS.app_to (seq := seqAt q0 ts.length) (A := nx C P q0 ts) h.up hr h3 ht.most h.few (by omega)
  have hw := RS.appTo_way (seq := seqAt q0 ts.length) (A := nx C P q0 ts) h.up hr h3 ht.most h.few (by omega) (t.length + 1)
  have hfl := (S.appTo F C (nx C P q0 ts) (seqAt q0 ts.length) t (t.length + 1)).flush_way 0
  have w0 := hw.d0
  have w1 := hw.d1
  have d0 := h.d0
  have d1 := h.d1
  have hlen : (ts ++ [t]).length = ts.length + 1 := by simp
  refine ⟨e0, h.ring.app ht hfit hf e0, h.ring.appZ h.rest ht hfit hf e0, hup, ?_, ?_, ?_, h.bb.app (isSeq_at _ _) ht.ok, hs.n0.trans h.n0, fun i hi => ?_⟩
  · rw [hto, hlen]
    exact (RS.few_flush hw.few 0).mono (by omega)
  · rw [hto]; simp only; omega
  · rw [hto, hlen]; simp only; push_cast; omega
  · exact (RS.app_done e0 ht.most hr hf).1 i (by rw [← hs.n0]; exact hi)
/-- What Replay tells. -/
theorem Ln.rep (h : Ln n0 F C P q0 ts S) : repS S.rd F C P q0 = (ts, nx C P q0 ts, seqAt q0 ts.length) := h.ring.rep (RestZ.ends h.ring h.rest)
end
section
variable {w x : World} {rb p0 p1 : Nat} {S : RS} {own : Nat → Prop} {F C A : Nat} {seq : Int} {t : List Img} {g c : Nat}
set_option maxRecDepth 100000 in
/-- Append, of the statement's rig. -/
theorem app_at (h : RAt w x rb p0 p1 S own) (hfu : S.fuse ≤ 1000000) (hd0 : 0 ≤ S.done) (hd1 : S.done ≤ 900000) (hf : S.Few 250) (hC2 : 2 ≤ C) (hC : C ≤ 256) (hF : F + C ≤ S.n0) (hA : A < C) (hn : S.n0 ≤ 4096) (hs : IsSeq seq) (ht : TxnOk C t) (hg : x.rangeAt g 0 (imgR t).flatten) (hgo : own g) :
    Calls Try.prog 13 #[.pointer (some ⟨rb, 0, none⟩), .int .i64 (F : Int), .int .i64 (C : Int), .int .i64 (A : Int), .int .u32 seq, .slice (some ⟨g, 0, none⟩) t.length c] x fun e w' =>
      e = .returned (.tuple #[.int .i64 (if (S.app F C A seq t).2 = 0 then (((A + t.length + 1) % C : Nat) : Int) else 0), .int .i64 (S.app F C A seq t).2]) ∧ RAt w w' rb p0 p1 (S.app F C A seq t).1 own ∧ ∀ k, own k → w'.heap[k]? = x.heap[k]? :=
  AtR.call (RigR.isRes rb p0 p1 _) h (fun f h1 h2 => ringOk.append h1 hfu hd0 hd1 hf hC2 hC hF hA hn hs ht hg (AtR.lt h hgo) (fun hh => (h2 _ hh).2 hgo))
set_option maxRecDepth 100000 in
/-- .. where it goes on. -/
theorem Ln.call {n0 P : Nat} {q0 : Int} {ts : List (List Img)} (h : RAt w x rb p0 p1 S own) (hL : Ln n0 F C P q0 ts S) (hn : n0 ≤ 4096) (ht : TxnOk C t) (hfit : (layB q0 ts).length + t.length + 1 ≤ C) (hts : ts.length ≤ 100) (hg : x.rangeAt g 0 (imgR t).flatten) (hgo : own g) :
    Calls Try.prog 13 #[.pointer (some ⟨rb, 0, none⟩), .int .i64 (F : Int), .int .i64 (C : Int), .int .i64 ((nx C P q0 ts : Nat) : Int), .int .u32 (seqAt q0 ts.length), .slice (some ⟨g, 0, none⟩) t.length c] x fun e w' =>
      e = .returned (.tuple #[.int .i64 ((nx C P q0 (ts ++ [t]) : Nat) : Int), .int .i64 0]) ∧ RAt w w' rb p0 p1 (S.app F C (nx C P q0 ts) (seqAt q0 ts.length) t).1 own ∧ ∀ k, own k → w'.heap[k]? = x.heap[k]? := by
  have d1 := hL.d1
  have := app_at (c := c) h (by rw [hL.up.fuse]; decide) hL.d0 (by omega) (hL.few.mono (by omega)) hL.ring.two hL.ring.most hL.ring.room hL.nx_lt (by rw [hL.n0]; exact hn) (isSeq_at q0 ts.length) ht hg hgo
  rw [(hL.app ht hfit hts).1, if_pos rfl, nx_snoc hL.ring.seq] at this
  exact this
set_option maxRecDepth 100000 in
/-- Replay, of the statement's rig. -/
theorem rep_at (h : RAt w x rb p0 p1 S own) (hby : S.BB) (hup : S.down = false) (hC2 : 2 ≤ C) (hC : C ≤ 256) (hF : F + C ≤ S.n0) (hA : A < C) (hn : S.n0 ≤ 4096) (hs : IsSeq seq) {ts : List (List Img)} {a : Nat} {q : Int} (hr : repS S.rd F C A seq = (ts, a, q)) :
    Calls Try.prog 15 #[.pointer (some ⟨rb, 0, none⟩), .int .i64 (F : Int), .int .i64 (C : Int), .int .i64 (A : Int), .int .u32 seq] x fun e w' =>
      (∃ v, e = .returned (.tuple #[.agg (logD v a q).toArray, .int .i64 0]) ∧ TxnsR 38 81 w' x.heap.size v ts) ∧ Below x.heap.size x w' :=
  AtR.look h (fun f h1 => by
    have := ringOk.replay h1 hby.byt hup hC2 hC hF hA hn hs
    rw [hr] at this
    exact this)
end
set_option maxRecDepth 100000 in
theorem new_logD (x : World) (v : Value) (a : Nat) (q : Int) (hv : v.oneCell' = true) : ∃ y, (storeVar 48 ⟨x.heap.size, 0, none⟩ (.agg (logD v a q).toArray)).run Try.prog (x.alloc (.cells #[.slice none 0 0, .int .i64 0, .int .u32 0] 48)) = .ok () y ∧ RowC y x.heap.size 48 (logD v a q) ∧ Below x.heap.size x y :=
  ⟨_, store_newLD (a' := v) (b' := .int .i64 (a : Int)) (c' := .int .u32 q) ⟨hv, rfl, rfl⟩, RowC.new x _ _, below_new x _⟩
/-- Pairs that are right are a transaction. -/
theorem right_txn {ps : List (Int × Int)} {C : Nat} (h : RightP ps 5) (hC : 6 ≤ C) : TxnOk C (imgsOf ps) := by
  obtain ⟨h1, h2, h3⟩ := h
  refine ⟨by rw [imgsOf_length]; exact h2, by rw [imgsOf_length]; omega, imgsOf_ok ps, fun x hx => ?_⟩
  unfold imgsOf at hx
  obtain ⟨p, hp, rfl⟩ := List.mem_map.1 hx
  exact h1 p hp
/-- An element of slices of pairs. -/
theorem PrsS.open {w : World} {a : Option Addr} {n cap : Nat} {L : List (List (Int × Int))} (h : PrsS w (.slice a n cap) L) (hne : L ≠ []) : ∃ b off, a = some ⟨b, off, none⟩ ∧ L.length = n ∧ n ≤ cap ∧ n ≤ maxLen ∧
    ∀ (i : Nat) (ps : List (Int × Int)), L[i]? = some ps → ∃ ra rc, ∀ x, Below w.heap.size w x → x.cell? ⟨b, off + i, none⟩ = some (.slice ra ps.length rc) ∧ Prs x (.slice ra ps.length rc) ps := by
  obtain ⟨a', cap', e, h1, h2, h3⟩ := h
  simp only [Value.slice.injEq] at e
  obtain ⟨rfl, rfl, rfl⟩ := e
  rcases h3 with h3 | ⟨b, off, rfl, hb, hc⟩
  · exact absurd h3 hne
  · refine ⟨b, off, rfl, rfl, h1, Nat.le_trans h1 h2, fun i ps hi => ?_⟩
    obtain ⟨u, hu, hP⟩ := hc i ps hi
    obtain ⟨ra, rc, rfl, _⟩ := id hP
    exact ⟨ra, rc, fun x hx => ⟨(hx.cell (p := ⟨b, off + i, none⟩) hb).trans hu, hP.below hx⟩⟩
end Go.Proofs.Ytfmgaakbfphpbaa

/- Marked sectors and blocks among the arguments. -/
namespace Go.Proofs.Ytfmgaakbfphpbaa
open Go.ChangeShapes Go.WideShapes Go.ChangeAt Go.RowKit
set_option linter.unusedVariables false

theorem wf_iff (k : IntKind) (n : Int) : (Lit.int k n).wf = true ↔ k.min ≤ n ∧ n ≤ k.max := by simp [Lit.wf]
section
variable {W : World} {t e : TypeId} {cs : List Value} {v : Value}
set_option maxRecDepth 100000 in
/-- An array of bytes. -/
theorem Cells.row {n : Nat} (h : Cells W t cs) (hu : Try.prog.underlying t = some (.array n e)) (he : Try.prog.underlying e = some (.int .u8)) (h1 : Try.prog.cellsOf e = 1) (hn : Try.prog.cellsOf t = n) :
    ∃ bs : List Int, bs.length = n ∧ IsBytes bs ∧ cs = u8s bs := by
  obtain ⟨hl, hf⟩ := h.array hu
  rw [hn] at hl
  rw [h1] at hf
  have hg : ∀ i, i < n → ∃ x : Int, cs[i]? = some (.int .u8 x) ∧ 0 ≤ x ∧ x < 256 := fun i hi => by
    obtain ⟨x, e1, wx⟩ := (hf i hi).int he
    rw [Nat.mul_one] at e1
    have e2 : cs[i]? = some (.int .u8 x) := by
      have := congrArg (·[0]?) e1
      simpa [List.getElem?_take, List.getElem?_drop] using this
    have := (wf_iff .u8 x).1 wx
    simp [IntKind.min, IntKind.max, IntKind.signed, IntKind.bits] at this
    exact ⟨x, e2, by omega, by omega⟩
  refine ⟨cs.map intOf, by simp [hl], fun j => ?_, ?_⟩
  · rw [List.getElem?_map]
    by_cases hj : j < n
    · obtain ⟨x, e2, w1, w2⟩ := hg j hj
      rw [e2]
      exact ⟨w1, w2⟩
    · rw [List.getElem?_eq_none (by omega)]
      exact ⟨by decide, by decide⟩
  · apply List.ext_getElem?
    intro i
    unfold u8s
    rw [List.map_map, List.getElem?_map]
    by_cases hi : i < n
    · obtain ⟨x, e2, w1, w2⟩ := hg i hi
      rw [e2]
      rfl
    · rw [List.getElem?_eq_none (by omega)]
      rfl
set_option maxRecDepth 100000 in
/-- A block. -/
theorem Arg.blk (h : Arg W 59 v) : ∃ bs : List Int, bs.length = 64 ∧ IsBytes bs ∧ v = .agg (u8s bs).toArray := by
  obtain ⟨cs, rfl, hl, hc⟩ := h.agg (.inr ⟨_, _, under_blk⟩)
  obtain ⟨bs, h1, h2, rfl⟩ := hc.row under_blk Try.underlying5 (by kernel_rfl) (by kernel_rfl)
  exact ⟨bs, h1, h2, rfl⟩
set_option maxRecDepth 100000 in
/-- A marked sector. -/
theorem Arg.sec (h : Arg W 107 v) : ∃ p : Sct, p.Ok ∧ (-9223372036854775808 ≤ p.index ∧ p.index ≤ 9223372036854775807) ∧ v = .agg p.cells.toArray := by
  obtain ⟨cs, rfl, hl, hc⟩ := h.agg (.inl ⟨_, Try.underlying107⟩)
  obtain ⟨-, hf⟩ := hc.struct Try.underlying107
  obtain ⟨m, e0, w0⟩ := (hf 0 _ rfl).int Try.underlying5
  obtain ⟨s, e1, w1⟩ := (hf 1 _ rfl).int Try.underlying33
  obtain ⟨i, e2, w2⟩ := (hf 2 _ rfl).int Try.underlying3
  obtain ⟨bs, h1, h2, e3⟩ := (hf 3 _ rfl).row Try.underlying79 Try.underlying5 (by kernel_rfl) (by kernel_rfl)
  have hs : Try.prog.cellsOf 107 = 51 := by kernel_rfl
  rw [hs] at hl
  have c0 : (cs.drop 0).take 1 = [.int .u8 m] := e0
  have c1 : (cs.drop 1).take 1 = [.int .u32 s] := e1
  have c2 : (cs.drop 2).take 1 = [.int .i64 i] := e2
  have c3 : (cs.drop 3).take 48 = u8s bs := e3
  have r0 := (wf_iff .u8 m).1 w0
  have r1 := (wf_iff .u32 s).1 w1
  have r2 := (wf_iff .i64 i).1 w2
  simp [IntKind.min, IntKind.max, IntKind.signed, IntKind.bits] at r0 r1 r2
  refine ⟨⟨m, s, i, bs⟩, ⟨?_, ?_, h1, h2⟩, ?_, ?_⟩
  · show 0 ≤ m ∧ m < 256; omega
  · show 0 ≤ s ∧ s < 4294967296; omega
  · show _ ≤ i ∧ i ≤ _; omega
  · have : cs = (cs.drop 0).take 1 ++ ((cs.drop 1).take 1 ++ ((cs.drop 2).take 1 ++ (cs.drop 3).take 48)) := by
      have a3 : (cs.drop 3).take 48 = cs.drop 3 := List.take_of_length_le (by rw [List.length_drop]; omega)
      have a2 : (cs.drop 2).take 1 ++ cs.drop 3 = cs.drop 2 := by have := List.take_append_drop 1 (cs.drop 2); rwa [List.drop_drop] at this
      have a1 : (cs.drop 1).take 1 ++ cs.drop 2 = cs.drop 1 := by have := List.take_append_drop 1 (cs.drop 1); rwa [List.drop_drop] at this
      have a0 : (cs.drop 0).take 1 ++ cs.drop 1 = cs.drop 0 := by have := List.take_append_drop 1 (cs.drop 0); rwa [List.drop_drop] at this
      rw [a3, a2, a1, a0, List.drop_zero]
    rw [this, c0, c1, c2, c3]
    rfl
end
end Go.Proofs.Ytfmgaakbfphpbaa

/- The steps that come in; fair (layer 6). -/
namespace Go.Proofs.Ytfmgaakbfphpbaa
open Go.ChangeShapes Go.WideShapes Go.ChangeAt Go.RowKit
set_option linter.unusedVariables false

/-- A step. -/
structure St where
  kind : Int
  i : Int
  pg : Value
  ps : List (Int × Int)
  p0 : Option Addr
  cap0 : Nat
  b0 : List Int
  away : Bool

/-- Its slice of picks. -/
def St.pick0 (s : St) : Value := .slice s.p0 s.b0.length s.cap0
/-- The step at a place. -/
structure StAt (W : World) (b o : Nat) (s : St) : Prop where
  c0 : W.cell? ⟨b, o, none⟩ = some (.int .i64 s.kind)
  c1 : W.cell? ⟨b, o + 1, none⟩ = some (.int .i64 s.i)
  c2 : W.cell? ⟨b, o + 2, none⟩ = some s.pg
  c3 : W.cell? ⟨b, o + 3, none⟩ = some s.pick0
  c4 : W.cell? ⟨b, o + 4, none⟩ = some (.bool s.away)
structure St.Ok (W : World) (s : St) : Prop where
  pages : Prs W s.pg s.ps
  pick0 : Sl .u8 W s.pick0 s.b0
  bytes0 : IsBytes s.b0
  i0 : -9223372036854775808 ≤ s.i
  i1 : s.i ≤ 9223372036854775807
/-- Steps, one behind the other. -/
def Steps (W : World) (v : Value) (l : List St) : Prop := ∃ a cap, v = .slice a l.length cap ∧ l.length ≤ cap ∧ cap ≤ maxLen ∧ (∀ s ∈ l, s.Ok W) ∧ (l = [] ∨ ∃ b off, a = some ⟨b, off, none⟩ ∧ b < W.heap.size ∧ ∀ j s, l[j]? = some s → StAt W b (off + j * 5) s)

theorem StAt.below {W W' : World} {b o : Nat} {s : St} (h : StAt W b o s) (hb : b < W.heap.size) (hB : Below W.heap.size W W') : StAt W' b o s :=
  ⟨(hB.cell (p := ⟨b, o, none⟩) hb).trans h.c0, (hB.cell (p := ⟨b, o + 1, none⟩) hb).trans h.c1, (hB.cell (p := ⟨b, o + 2, none⟩) hb).trans h.c2, (hB.cell (p := ⟨b, o + 3, none⟩) hb).trans h.c3, (hB.cell (p := ⟨b, o + 4, none⟩) hb).trans h.c4⟩
theorem St.Ok.below {W W' : World} {s : St} (h : s.Ok W) (hB : Below W.heap.size W W') : s.Ok W' := ⟨h.pages.below hB, h.pick0.below hB, h.bytes0, h.i0, h.i1⟩
theorem Steps.below {W W' : World} {v : Value} {l : List St} (h : Steps W v l) (hB : Below W.heap.size W W') : Steps W' v l := by
  obtain ⟨a, cap, rfl, h1, h2, h3, h4⟩ := h
  refine ⟨a, cap, rfl, h1, h2, fun s hs => (h3 s hs).below hB, ?_⟩
  rcases h4 with h4 | ⟨b, off, rfl, h5, h6⟩
  · exact .inl h4
  · exact .inr ⟨b, off, rfl, Nat.lt_of_lt_of_le h5 hB.size, fun j s hj => (h6 j s hj).below h5 hB⟩

set_option maxRecDepth 100000 in
theorem under_step : ∃ fs, Try.prog.underlying 37 = some (.struct fs) ∧ (fs[0]?).map (fun f => (f.offset, f.type)) = some (0, 3) ∧ (fs[1]?).map (fun f => (f.offset, f.type)) = some (1, 3) ∧ (fs[2]?).map (fun f => (f.offset, f.type)) = some (2, 34) ∧ (fs[3]?).map (fun f => (f.offset, f.type)) = some (3, 35) ∧ (fs[4]?).map (fun f => (f.offset, f.type)) = some (4, 4) :=
  ⟨_, Try.underlying37, rfl, rfl, rfl, rfl, rfl⟩

def St.cells (s : St) : List Value := [.int .i64 s.kind, .int .i64 s.i, s.pg, s.pick0, .bool s.away]
set_option maxRecDepth 100000 in
/-- Five cells that read as a step. -/
theorem step_of_cells {W : World} {cs : List Value} (h : Cells W 37 cs) : ∃ s : St, s.Ok W ∧ cs = s.cells := by
  obtain ⟨fs, hu, f0, f1, f2, f3, f4⟩ := under_step
  obtain ⟨hl, hf⟩ := h.struct hu
  rw [show Try.prog.cellsOf 37 = 5 from by kernel_rfl] at hl
  have field : ∀ (j o : Nat) t, (fs[j]?).map (fun f => (f.offset, f.type)) = some (o, t) → Cells W t ((cs.drop o).take (Try.prog.cellsOf t)) := by
    intro j o t hj
    obtain ⟨f, hf1, hf2⟩ := Option.map_eq_some_iff.1 hj
    cases hf2
    exact hf j f hf1
  obtain ⟨x0, x1, x2, x3, x4, rfl⟩ : ∃ x0 x1 x2 x3 x4, cs = [x0, x1, x2, x3, x4] := by
    match cs, hl with
    | [x0, x1, x2, x3, x4], _ => exact ⟨x0, x1, x2, x3, x4, rfl⟩
  · have g0 := field 0 0 _ f0
    have g1 := field 1 1 _ f1
    have g2 := field 2 2 _ f2
    have g3 := field 3 3 _ f3
    have g4 := field 4 4 _ f4
    rw [show Try.prog.cellsOf 3 = 1 from by kernel_rfl] at g0 g1
    rw [show Try.prog.cellsOf 34 = 1 from by kernel_rfl] at g2
    rw [show Try.prog.cellsOf 35 = 1 from by kernel_rfl] at g3
    rw [show Try.prog.cellsOf 4 = 1 from by kernel_rfl] at g4
    obtain ⟨n0, e0, w0⟩ := g0.int Try.underlying3
    obtain ⟨n1, e1, w1⟩ := g1.int Try.underlying3
    obtain ⟨pv, pl, e2, hp⟩ := g2.prs
    obtain ⟨a, len, cap, xs, e3, hx, hm, hs, hw⟩ := g3.bytes Try.underlying35 Try.underlying5 (by kernel_rfl)
    obtain ⟨bb, e4⟩ := g4.bool Try.underlying4
    simp at e0 e1 e2 e3 e4
    subst e0 e1 e2 e3 e4 hx
    have b1 := bounds_i64 w1
    exact ⟨⟨n0, n1, _, pl, a, cap, xs, bb⟩, ⟨hp, hs, hw, b1.1, b1.2⟩, rfl⟩

set_option maxRecDepth 100000 in
/-- Steps that came in. -/
theorem Arg.steps {W : World} {v : Value} (h : Arg W 23 v) : ∃ l, Steps W v l := by
  obtain ⟨a, len, cap, rfl, r⟩ := h.slice Try.underlying23
  rcases r with ⟨rfl, rfl, rfl⟩ | ⟨x, rfl, h1, h2, h3⟩
  · exact ⟨[], none, 0, rfl, Nat.le_refl _, Nat.zero_le _, (fun s hs => by cases hs), .inl rfl⟩
  · rw [show Try.prog.cellsOf 37 = 5 from by kernel_rfl] at h3
    have h4 : ∀ i, i < cap → ∃ s : St, s.Ok W ∧ ∀ j v, s.cells[j]? = some v → j < 5 → W.cell? ((x.add (i * 5)).add j) = some v := by
      intro i hi
      obtain ⟨es, g1, g2⟩ := h3 i hi
      obtain ⟨s, hs, rfl⟩ := step_of_cells g2
      have hm := (cells_many g1).2
      exact ⟨s, hs, fun j v hj hj5 => by
        obtain ⟨u, hu1, hu2⟩ := hm j hj5
        rw [hj] at hu1
        cases hu1
        exact hu2⟩
    have h5 : ∀ i, ∃ s : St, i < cap → s.Ok W ∧ ∀ j v, s.cells[j]? = some v → j < 5 → W.cell? ((x.add (i * 5)).add j) = some v := fun i => by
      by_cases hi : i < cap
      · obtain ⟨s, hs⟩ := h4 i hi; exact ⟨s, fun _ => hs⟩
      · exact ⟨⟨0, 0, .bool false, [], none, 0, [], false⟩, fun h => absurd h hi⟩
    obtain ⟨f, hf⟩ := Classical.axiomOfChoice h5
    refine ⟨(List.range len).map f, some x, cap, by simp, by simp; omega, h2, fun s hs => ?_, ?_⟩
    · obtain ⟨i, hi, rfl⟩ := List.mem_map.1 hs
      exact (hf i (by have := List.mem_range.1 hi; omega)).1
    · by_cases h0 : len = 0
      · subst h0; exact .inl rfl
      · have hc0 := (hf 0 (by omega)).2 0 _ rfl (by omega)
        rw [Nat.zero_mul, show (x.add 0).add 0 = x by simp [Addr.add]] at hc0
        obtain ⟨b, off, rfl, hb⟩ := cell_plain hc0
        refine .inr ⟨b, off, rfl, hb, fun j s hj => ?_⟩
        have hjl : j < len := by have := (List.getElem?_eq_some_iff.1 hj).1; simpa using this
        have hs : s = f j := by rw [List.getElem?_map] at hj; simp [hjl] at hj; exact hj.symm
        subst hs
        have q := (hf j (by omega)).2
        simp only [add_plain] at q
        exact ⟨q 0 _ rfl (by omega), q 1 _ rfl (by omega), q 2 _ rfl (by omega), q 3 _ rfl (by omega), q 4 _ rfl (by omega)⟩
theorem Arg.step {W : World} {v : Value} (h : Arg W 37 v) : ∃ s : St, s.Ok W ∧ v = .agg #[.int .i64 s.kind, .int .i64 s.i, s.pg, s.pick0, .bool s.away] := by
  obtain ⟨fs, hu, _⟩ := under_step
  obtain ⟨cs, rfl, _, hc⟩ := h.agg (.inl ⟨fs, hu⟩)
  obtain ⟨s, hs, rfl⟩ := step_of_cells hc
  exact ⟨s, hs, rfl⟩

/-- A step of those that came in, wherever one stands. -/
theorem Steps.open {w : World} {a : Option Addr} {L cap : Nat} {l : List St} (h : Steps w (.slice a L cap) l) (hL : l.length = L) {k : Nat} {s : St} (hs : l[k]? = some s) :
    ∃ b off, a = some ⟨b, off, none⟩ ∧ s.Ok w ∧ b < w.heap.size ∧ StAt w b (off + k * 5) s := by
  obtain ⟨a', cap', e, _, _, h3, h4⟩ := h
  simp only [Value.slice.injEq] at e
  obtain ⟨rfl, _, rfl⟩ := e
  rcases h4 with e | ⟨b, off, rfl, h5, h6⟩
  · rw [e] at hs; simp at hs
  · exact ⟨b, off, rfl, h3 s (List.mem_of_getElem? hs), h5, h6 k s hs⟩

/-- Few enough, and none too long. -/
def fairB (l : List St) : Bool := (l.all fun s => decide (s.ps.length ≤ 300) && decide (s.b0.length ≤ 300)) && decide (l.length ≤ 60)

theorem fairB_not {l : List St} {s : St} (hs : s ∈ l) (h : 300 < s.ps.length ∨ 300 < s.b0.length) : fairB l = false := by
  unfold fairB
  rw [Bool.and_eq_false_iff]
  left
  cases e : l.all fun s => decide (s.ps.length ≤ 300) && decide (s.b0.length ≤ 300) with
  | false => rfl
  | true =>
    have := List.all_eq_true.1 e s hs
    simp at this
    omega
theorem fairB_yes {l : List St} (h : fairB l = true) : l.length ≤ 60 ∧ ∀ s ∈ l, s.ps.length ≤ 300 ∧ s.b0.length ≤ 300 := by
  unfold fairB at h
  rw [Bool.and_eq_true, decide_eq_true_eq, List.all_eq_true] at h
  exact ⟨h.2, fun s hs => by have := h.1 s hs; simpa using this⟩

set_option maxRecDepth 100000 in
set_option maxHeartbeats 2000000 in
/-- **fair**. -/
theorem fair_any (v : Value) (l : List St) (w : World) (h : Steps w v l) : Calls Try.prog 8 #[v] w fun e w' => e = .returned (.bool (fairB l)) ∧ w' = w := by
  obtain ⟨a, cap, rfl, h1, h2, h3, h4⟩ := h
  obtain ⟨n, hn⟩ : ∃ n, l.length = n := ⟨_, rfl⟩
  have HN := Lib.hid hn
  rw [hn] at h1 ⊢
  have HM : Hid (n ≤ maxLen) := Nat.le_trans h1 h2
  have H4 := Lib.hid h4
  have HOK := Lib.hid h3
  clear h1 h2 h3 h4 hn
  go_enter Try.func8, Try.ntmps8
  go_wp2
  go_loop [3] (fun i => ∃ k : Nat, k ≤ n ∧ i = .int .i64 k ∧ Hid (∀ j s, j < k → l[j]? = some s → s.ps.length ≤ 300 ∧ s.b0.length ≤ 300)) (fun i => n - (intOf i).toNat)
  case atStart => exact ⟨0, Nat.zero_le _, rfl, fun j s hj => by omega⟩
  case round =>
    obtain ⟨k, hk, rfl, HP⟩ := hrel
    by_cases hlt : k < n
    · obtain ⟨s, hs⟩ : ∃ s, l[k]? = some s := ⟨_, List.getElem?_eq_getElem (by rw [HN.out]; exact hlt)⟩
      obtain ⟨b, off, rfl, pa, pc, c4, c5⟩ : ∃ b off, a = some ⟨b, off, none⟩ ∧ ∃ pa pc, w.cell? ⟨b, off + k * 5 + 2, none⟩ = some (.slice pa s.ps.length pc) ∧ w.cell? ⟨b, off + k * 5 + 3, none⟩ = some (.slice s.p0 s.b0.length s.cap0) := by
        rcases H4.out with e | ⟨b, off, rfl, h5, h6⟩
        · have := HN.out; rw [e] at this; simp at this; omega
        · obtain ⟨pa, pc, e, _⟩ := (HOK.out s (List.mem_of_getElem? hs)).pages
          exact ⟨b, off, rfl, pa, pc, e ▸ (h6 k s hs).c2, (h6 k s hs).c3⟩
      have g1 : (k : Int) < (n : Int) := by omega
      have HLT := Lib.hid hlt
      have HS := Lib.hid hs
      have HW : Hid (wrap64 ((k : Int) + 1) = (k : Int) + 1) := IntWalk.wrap64_in _ (by have := HM.out; unfold maxLen at this; omega)
      clear hlt hk hs
      by_cases hbig : 300 < s.ps.length
      · have g2 : decide ((300 : Int) < (s.ps.length : Int)) = true := by simp; omega
        have HE : Hid (fairB l = false) := fairB_not (List.mem_of_getElem? HS.out) (.inl hbig)
        clear hbig
        go_wp2
        go_ret
        exact ⟨by rw [HE.out]; rfl, rfl⟩
      · have g2 : decide ((300 : Int) < (s.ps.length : Int)) = false := by simp; omega
        have HB : Hid (s.ps.length ≤ 300) := by show _ ≤ _; omega
        clear hbig
        by_cases hbig : 300 < s.b0.length
        · have g3 : (300 : Int) < (s.b0.length : Int) := by omega
          have HE : Hid (fairB l = false) := fairB_not (List.mem_of_getElem? HS.out) (.inr hbig)
          clear hbig
          go_wp2
          go_ret
          exact ⟨by rw [HE.out]; rfl, rfl⟩
        · have g3 : ¬ (300 : Int) < (s.b0.length : Int) := by omega
          have HB1 : Hid (s.b0.length ≤ 300) := by show _ ≤ _; omega
          clear hbig
          go_wp2
          refine ⟨next_rel (C := fun k' => Hid (∀ (j : Nat) (s : St), j < k' → l[j]? = some s → s.ps.length ≤ 300 ∧ s.b0.length ≤ 300)) HW.out HLT.out (fun j s' hj hs' => ?_), next_lt HW.out HLT.out⟩
          by_cases e : j < k
          · exact HP.out j s' e hs'
          · obtain rfl : j = k := by omega
            rw [HS.out] at hs'
            cases hs'
            exact ⟨HB.out, HB1.out⟩
    · obtain rfl : k = n := by omega
      have HE : Hid (decide ((k : Int) ≤ 60) = fairB l) := by
        show _ = _
        unfold fairB
        have e : (l.all fun s => decide (s.ps.length ≤ 300) && decide (s.b0.length ≤ 300)) = true := by
          rw [List.all_eq_true]
          intro s hs
          obtain ⟨j, hj, rfl⟩ := List.getElem_of_mem hs
          simpa using HP.out j _ (by have := HN.out; omega) (List.getElem?_eq_getElem hj)
        rw [e, Bool.true_and, HN.out]
        simp
        omega
      go_wp2
      go_ret
      exact ⟨by rw [← HE.out]; rfl, rfl⟩
end Go.Proofs.Ytfmgaakbfphpbaa

/- The document's own rig: Crash, New. -/
namespace Go.Proofs.Ytfmgaakbfphpbaa
open Go.RowKit
set_option linter.unusedVariables false
attribute [-simp] Try.isAgg59 Try.zeroValue59
attribute [-go_sem] loadVar storeVar
attribute [local go_sem] zero_blk build_blk loadVar_open storeVar_open

section
variable {rq q0 q1 : Nat} {S : RS} {w : World} {f : Nat → Prop} {v : Value} {b : List Int}
set_option maxRecDepth 100000 in
theorem RigQ.crash0 (h : RigQ rq q0 q1 S w f) (hv : Sl .u8 w v b) (hB : IsBytes b) (hc : b ≠ [] → Clear f v) (hm : S.Few 1000000) :
    Calls Try.prog 43 #[.pointer (some ⟨q0, 0, none⟩), v] w fun e w' => e = .returned (.tuple #[]) ∧ ∃ f', RigQ rq q0 q1 (S.cr0 b) w' f' ∧ Turn f f' w w' := by
  refine Sep.secondC (R := fun e _ => e = .returned (.tuple #[])) (RowR.isRes _ _ _) (S.disks2_isRes q0 q1) h (Q' := (S.cr0 b).disks2 q0 q1) fun f2 h2 hs2 => ?_
  refine Sep.firstC (R := fun e _ => e = .returned (.tuple #[])) (RefD.isRes _ _ _) (RefD.isRes _ _ _) h2 fun f3 h3 hs3 => ?_
  refine (refCrash q0 S.n0 f3 S.D0 v b w h3.1 h3.2 hv hB (fun hn x off len cap e hf => hc hn x off len cap e (hs2 _ (hs3 _ hf))) hm.1).mono ?_
  rintro e w' ⟨rfl, f', g1, g2⟩
  exact ⟨rfl, f', ⟨g1, h3.2⟩, g2⟩
set_option maxRecDepth 100000 in
theorem RigQ.crash1 (h : RigQ rq q0 q1 S w f) (hv : Sl .u8 w v b) (hB : IsBytes b) (hc : b ≠ [] → Clear f v) (hm : S.Few 1000000) :
    Calls Try.prog 43 #[.pointer (some ⟨q1, 0, none⟩), v] w fun e w' => e = .returned (.tuple #[]) ∧ ∃ f', RigQ rq q0 q1 (S.cr1 b) w' f' ∧ Turn f f' w w' := by
  refine Sep.secondC (R := fun e _ => e = .returned (.tuple #[])) (RowR.isRes _ _ _) (S.disks2_isRes q0 q1) h (Q' := (S.cr1 b).disks2 q0 q1) fun f2 h2 hs2 => ?_
  refine Sep.secondC (R := fun e _ => e = .returned (.tuple #[])) (RefD.isRes _ _ _) (RefD.isRes _ _ _) h2 fun f3 h3 hs3 => ?_
  refine (refCrash q1 S.n1 f3 S.D1 v b w h3.1 h3.2 hv hB (fun hn x off len cap e hf => hc hn x off len cap e (hs2 _ (hs3 _ hf))) hm.2).mono ?_
  rintro e w' ⟨rfl, f', g1, g2⟩
  exact ⟨rfl, f', ⟨g1, h3.2⟩, g2⟩

set_option maxRecDepth 100000 in
set_option maxHeartbeats 1000000 in
/-- **Crash**. -/
theorem RigQ.crash {v0 v1 : Value} {b0 b1 : List Int} (h : RigQ rq q0 q1 S w f) (hv0 : Sl .u8 w v0 b0) (hv1 : Sl .u8 w v1 b1) (hB0 : IsBytes b0) (hB1 : IsBytes b1) (hc0 : b0 ≠ [] → Clear f v0) (hc1 : b1 ≠ [] → Clear f v1) (hm : S.Few 1000000) :
    Calls Try.prog 19 #[.pointer (some ⟨rq, 0, none⟩), v0, v1] w fun e w' => e = .returned (.tuple #[]) ∧ ∃ f', RigQ rq q0 q1 (S.crash b0 b1) w' f' ∧ Turn f f' w w' := by
  obtain ⟨a0, cap0, rfl, -, -, -, -⟩ := id hv0
  obtain ⟨a1, cap1, rfl, -, -, -, -⟩ := id hv1
  obtain ⟨L0, hL0⟩ : ∃ L, b0.length = L := ⟨_, rfl⟩
  obtain ⟨L1, hL1⟩ : ∃ L, b1.length = L := ⟨_, rfl⟩
  rw [hL0] at hv0 hc0 ⊢
  rw [hL1] at hv1 hc1 ⊢
  have c0 : w.cell? ⟨rq, 0, none⟩ = some (.pointer (some ⟨q0, 0, none⟩)) := h.cell 0
  have H1 := Lib.hid (h.crash0 hv0 hB0 hc0 hm)
  have H2 : Hid (∀ (x : World) (f2 : Nat → Prop), RigQ rq q0 q1 (S.cr0 b0) x f2 → Turn f f2 w x → Calls Try.prog 43 #[.pointer (some ⟨q1, 0, none⟩), .slice a1 L1 cap1] x fun e w' => e = .returned (.tuple #[]) ∧ ∃ f', RigQ rq q0 q1 ((S.cr0 b0).cr1 b1) w' f' ∧ Turn f2 f' x w') := fun x f2 hx ht =>
    hx.crash1 (hv1.stay ht.size (fun hn y off len cap e hy => ht.out y hy (hc1 hn y off len cap e))) hB1 (fun hn y off len cap e hf => (ht.new y hf).elim (hc1 hn y off len cap e) (fun h => by have := hv1.lt_of hn e; omega)) (RS.cr0_few hm b0)
  clear h hv0 hv1 hB0 hB1 hc0 hc1 hm hL0 hL1
  go_enter Try.func19, Try.ntmps19
  go_wp2_with fail
  go_at_call 43
  refine H1.out.mono ?_
  rintro e x1 ⟨rfl, f1, g1, g2⟩
  have c1 : x1.cell? ⟨rq, 1, none⟩ = some (.pointer (some ⟨q1, 0, none⟩)) := g1.cell 1
  have H3 := Lib.hid (H2.out x1 f1 g1 g2)
  have HT := Lib.hid g2
  clear g1 g2 c0
  go_wp2_with fail
  go_at_call 43
  refine H3.out.mono ?_
  rintro e x2 ⟨rfl, f2, g1, g2⟩
  have e2 : x2.cell? ⟨rq, 2, none⟩ = some (.int .i64 S.fuse) := g1.cell 2
  have e3 : x2.cell? ⟨rq, 3, none⟩ = some (.bool S.down) := g1.cell 3
  have r2 := g1.frozen 2
  have r3 := g1.frozen 3
  have HU := Lib.hid g2
  have HR := Lib.hid g1
  clear g1 g2 c1
  go_wp2_with fail
  go_end0
  obtain ⟨g3, g4⟩ := HR.out.set (RS.disks2_isRes q0 q1 _) 2 (.int .i64 (-1))
  obtain ⟨g5, g6⟩ := g3.set (RS.disks2_isRes q0 q1 _) 3 (.bool false)
  exact ⟨rfl, f2, g5, HT.out.trans (HU.out.trans (g4.trans g6))⟩
end

set_option maxRecDepth 100000 in
set_option maxHeartbeats 1000000 in
/-- **New**. -/
theorem rigQ_yes (n0 n1 : Nat) (w : World) (h01 : 1 ≤ n0) (h02 : n0 ≤ 4096) (h11 : 1 ≤ n1) (h12 : n1 ≤ 4096) :
    Calls Try.prog 11 #[.int .i64 (n0 : Int), .int .i64 (n1 : Int)] w fun e w' => ∃ rq q0 q1, e = .returned (.tuple #[.pointer (some ⟨rq, 0, none⟩), .int .i64 0]) ∧ (∃ f, RigQ rq q0 q1 (newS n0 n1) w' f ∧ ∀ k, f k → w.heap.size ≤ k) ∧ Below w.heap.size w w' := by
  have H0 := Lib.hid (refNew_yes n0 w h01 h02)
  have H1 := Lib.hid (fun x => refNew_yes n1 x h11 h12)
  have HP : Hid (0 < n0 ∧ 0 < n1) := ⟨by omega, by omega⟩
  clear h01 h02 h11 h12
  go_enter Try.func11, Try.ntmps11
  go_wp2_with fail
  go_at_call 29
  refine H0.out.mono ?_
  rintro e x1 ⟨q0, rfl, ⟨f0, g1, g2⟩, g3⟩
  have A1 := Lib.hid g1
  have A2 := Lib.hid g2
  have A3 := Lib.hid g3
  clear g1 g2 g3
  go_wp2_with fail
  go_at_call 29
  refine (H1.out x1).mono ?_
  rintro e x2 ⟨q1, rfl, ⟨f1, g1, g2⟩, g3⟩
  have B1 := Lib.hid g1
  have B2 := Lib.hid g2
  have B3 := Lib.hid g3
  clear g1 g2 g3
  go_wp2_with fail
  go_ret2
  have hA : ∀ k, f0 k → k < x1.heap.size := A1.out.lt HP.out.1
  have hB : ∀ k, f1 k → k < x2.heap.size := B1.out.lt HP.out.2
  have hz1 := A3.out.size
  have hz2 := B3.out.size
  have hal : ∀ o : Obj, Below x2.heap.size x2 (x2.alloc o) := fun o => (Below.refl _ x2).alloc (Nat.le_refl _) o
  refine ⟨_, q0, q1, rfl, ⟨_, ⟨fun k => k = x2.heap.size, fun k => f0 k ∨ f1 k, ⟨heap_alloc_new x2 _, rfl⟩, ⟨f0, f1, ⟨(A1.out.below HP.out.1 B3.out).below HP.out.1 (hal _), HP.out.1⟩, ⟨B1.out.below HP.out.2 (hal _), HP.out.2⟩, fun k a b => ?_, rfl⟩, fun k a b => ?_, rfl⟩, fun k hk => ?_⟩, ?_⟩
  · have := hA k a; have := B2.out k b; omega
  · subst a
    rcases b with b | b
    · have := hA _ b; omega
    · have := hB _ b; omega
  · rcases hk with rfl | hk | hk
    · omega
    · exact A2.out k hk
    · have := B2.out k hk; omega
  · exact (A3.out.trans (B3.out.mono A3.out.size)).trans ((hal _).mono (by omega))

set_option maxRecDepth 100000 in
/-- What New comes to, of whatever size. -/
theorem refNew_any (n : Int) (w : World) : Calls Try.prog 29 #[.int .i64 n] w fun e w' => ∃ p, e = .returned (.tuple #[.pointer p, .int .i64 (if n < 1 ∨ 4096 < n then 1 else 0)]) ∧ Below w.heap.size w w' := by
  by_cases h : n < 1 ∨ 4096 < n
  · rw [if_pos h]
    refine (refNew_no n w h).mono ?_
    rintro e w' ⟨rfl, rfl⟩
    exact ⟨_, rfl, Below.refl _ _⟩
  · rw [if_neg h]
    obtain ⟨m, rfl⟩ : ∃ m : Nat, n = (m : Int) := ⟨n.toNat, by omega⟩
    refine (refNew_yes m w (by omega) (by omega)).mono ?_
    rintro e w' ⟨rq, rfl, -, h⟩
    exact ⟨_, rfl, h⟩

set_option maxRecDepth 100000 in
set_option maxHeartbeats 1000000 in
/-- **New**, of no sizes that there are. -/
theorem rigQ_no (n0 n1 : Int) (w : World) (h : (n0 < 1 ∨ 4096 < n0) ∨ (n1 < 1 ∨ 4096 < n1)) :
    Calls Try.prog 11 #[.int .i64 n0, .int .i64 n1] w fun e w' => e = .returned (.tuple #[.pointer none, .int .i64 1]) ∧ Below w.heap.size w w' := by
  obtain ⟨e0, he0⟩ : ∃ e0 : Int, (if n0 < 1 ∨ 4096 < n0 then 1 else 0) = e0 := ⟨_, rfl⟩
  obtain ⟨e1, he1⟩ : ∃ e1 : Int, (if n1 < 1 ∨ 4096 < n1 then 1 else 0) = e1 := ⟨_, rfl⟩
  have H0 := Lib.hid (refNew_any n0 w)
  have H1 := Lib.hid (fun x => refNew_any n1 x)
  rw [he0] at H0
  rw [he1] at H1
  have hc : e0 = 1 ∨ (e0 = 0 ∧ e1 = 1) := by
    by_cases h0 : n0 < 1 ∨ 4096 < n0
    · rw [if_pos h0] at he0; exact .inl he0.symm
    · rw [if_neg h0] at he0; rw [if_pos (h.resolve_left h0)] at he1; exact .inr ⟨he0.symm, he1.symm⟩
  clear h he0 he1
  rcases hc with rfl | ⟨rfl, rfl⟩
  all_goals
    go_enter Try.func11, Try.ntmps11
    go_wp2_with fail
    go_at_call 29
    refine H0.out.mono ?_
    rintro e x1 ⟨p, rfl, hb⟩
    have HB := Lib.hid hb
    clear hb
    go_wp2_with fail
    go_at_call 29
    refine (H1.out x1).mono ?_
    rintro e x2 ⟨p', rfl, hb⟩
    have HB2 := Lib.hid hb
    clear hb
    go_wp2_with fail
    go_ret2
    exact ⟨rfl, HB.out.trans (HB2.out.mono HB.out.size)⟩
end Go.Proofs.Ytfmgaakbfphpbaa

/- The rig and the document's own one, side by side. -/
namespace Go.Proofs.Ytfmgaakbfphpbaa
open Go.RowKit
set_option linter.unusedVariables false

/-- Where both are. -/
structure PP where
  rb : Nat
  p0 : Nat
  p1 : Nat
  rq : Nat
  q0 : Nat
  q1 : Nat
/-- Since w0 both have been made; they hold S and T; the blocks own are no part of them. -/
abbrev BAt (w0 W : World) (p : PP) (S T : RS) (own : Nat → Prop) : Prop := AtR (Sep (RigR p.rb p.p0 p.p1 S) (RigQ p.rq p.q0 p.q1 T)) w0 W own

theorem bothRes (p : PP) (S T : RS) : IsRes (Sep (RigR p.rb p.p0 p.p1 S) (RigQ p.rq p.q0 p.q1 T)) := (RigR.isRes _ _ _ _).sep (RigQ.isRes _ _ _ _)

section
variable {w0 W W' : World} {p : PP} {S T : RS} {own : Nat → Prop}
theorem BAt.beside (h : BAt w0 W p S T own) (hb : Below W.heap.size W W') : BAt w0 W' p S T own := AtR.beside (bothRes _ _ _) h hb
theorem BAt.below (h : BAt w0 W p S T own) (hb : Below W.heap.size W W') (own' : Nat → Prop) (ho : ∀ k, own' k → own k ∨ (W.heap.size ≤ k ∧ k < W'.heap.size)) : BAt w0 W' p S T own' := AtR.below (bothRes _ _ _) h hb own' ho
set_option maxRecDepth 100000 in
theorem BAt.first {g : FuncId} {args : Array Value} {R : Ending → World → Prop} {S' : RS} (h : BAt w0 W p S T own)
    (hc : ∀ f, RigR p.rb p.p0 p.p1 S W f → (∀ k, f k → w0.heap.size ≤ k ∧ ¬ own k) → Calls Try.prog g args W fun e w' => R e w' ∧ ∃ f', RigR p.rb p.p0 p.p1 S' w' f' ∧ Turn f f' W w') :
    Calls Try.prog g args W fun e w' => R e w' ∧ BAt w0 w' p S' T own ∧ ∀ k, own k → w'.heap[k]? = W.heap[k]? :=
  AtR.call (bothRes _ _ _) h fun f hf hk => Sep.firstC (RigR.isRes _ _ _ _) (RigQ.isRes _ _ _ _) hf fun f1 h1 hs => hc f1 h1 fun k hk1 => hk k (hs k hk1)
set_option maxRecDepth 100000 in
theorem BAt.second {g : FuncId} {args : Array Value} {R : Ending → World → Prop} {T' : RS} (h : BAt w0 W p S T own)
    (hc : ∀ f, RigQ p.rq p.q0 p.q1 T W f → (∀ k, f k → w0.heap.size ≤ k ∧ ¬ own k) → Calls Try.prog g args W fun e w' => R e w' ∧ ∃ f', RigQ p.rq p.q0 p.q1 T' w' f' ∧ Turn f f' W w') :
    Calls Try.prog g args W fun e w' => R e w' ∧ BAt w0 w' p S T' own ∧ ∀ k, own k → w'.heap[k]? = W.heap[k]? :=
  AtR.call (bothRes _ _ _) h fun f hf hk => Sep.secondC (RigR.isRes _ _ _ _) (RigQ.isRes _ _ _ _) hf fun f1 h1 hs => hc f1 h1 fun k hk1 => hk k (hs k hk1)
theorem BAt.rig (h : BAt w0 W p S T own) : ∃ f, RigR p.rb p.p0 p.p1 S W f := by obtain ⟨f, ⟨f1, f2, h1, h2, _⟩, _⟩ := h; exact ⟨f1, h1⟩
theorem BAt.ref (h : BAt w0 W p S T own) : ∃ f, RigQ p.rq p.q0 p.q1 T W f := by obtain ⟨f, ⟨f1, f2, h1, h2, _⟩, _⟩ := h; exact ⟨f2, h2⟩

set_option maxRecDepth 100000 in
theorem BAt.write (h : BAt w0 W p S T own) (hS : S.Fit) (hm : S.Few 255) (dev i : Int) {b : List Value} (hb : IsBlk b) :
    Calls Try.prog 20 #[.pointer (some ⟨p.rb, 0, none⟩), .int .i64 dev, .int .i64 i, .agg b.toArray] W fun e w' => e = .returned (.int .i64 (S.writeE dev i)) ∧ BAt w0 w' p (S.write dev i b) T own ∧ ∀ k, own k → w'.heap[k]? = W.heap[k]? :=
  BAt.first (R := fun e _ => e = .returned (.int .i64 (S.writeE dev i))) h fun f hf _ => hf.write hS hm dev i hb
set_option maxRecDepth 100000 in
theorem BAt.write2 (h : BAt w0 W p S T own) (hS : T.Fit) (hm : T.Few 255) (dev i : Int) {b : List Value} (hb : IsBlk b) :
    Calls Try.prog 22 #[.pointer (some ⟨p.rq, 0, none⟩), .int .i64 dev, .int .i64 i, .agg b.toArray] W fun e w' => e = .returned (.int .i64 (T.writeE dev i)) ∧ BAt w0 w' p S (T.write dev i b) own ∧ ∀ k, own k → w'.heap[k]? = W.heap[k]? :=
  BAt.second (R := fun e _ => e = .returned (.int .i64 (T.writeE dev i))) h fun f hf _ => hf.write hS hm dev i hb
set_option maxRecDepth 100000 in
theorem BAt.flush (h : BAt w0 W p S T own) (hS : S.Fit) (dev : Int) :
    Calls Try.prog 54 #[.pointer (some ⟨p.rb, 0, none⟩), .int .i64 dev] W fun e w' => e = .returned (.int .i64 (S.flushE dev)) ∧ BAt w0 w' p (S.flush dev) T own ∧ ∀ k, own k → w'.heap[k]? = W.heap[k]? :=
  BAt.first (R := fun e _ => e = .returned (.int .i64 (S.flushE dev))) h fun f hf _ => hf.flush hS dev
set_option maxRecDepth 100000 in
theorem BAt.flush2 (h : BAt w0 W p S T own) (hS : T.Fit) (dev : Int) :
    Calls Try.prog 34 #[.pointer (some ⟨p.rq, 0, none⟩), .int .i64 dev] W fun e w' => e = .returned (.int .i64 (T.flushE dev)) ∧ BAt w0 w' p S (T.flush dev) own ∧ ∀ k, own k → w'.heap[k]? = W.heap[k]? :=
  BAt.second (R := fun e _ => e = .returned (.int .i64 (T.flushE dev))) h fun f hf _ => hf.flush hS dev
set_option maxRecDepth 100000 in
theorem BAt.arm (h : BAt w0 W p S T own) (n : Int) :
    Calls Try.prog 26 #[.pointer (some ⟨p.rb, 0, none⟩), .int .i64 n] W fun e w' => e = .returned (.tuple #[]) ∧ BAt w0 w' p { S with fuse := n } T own ∧ ∀ k, own k → w'.heap[k]? = W.heap[k]? :=
  BAt.first (R := fun e _ => e = .returned (.tuple #[])) h fun f hf _ => hf.arm n
set_option maxRecDepth 100000 in
theorem BAt.crash {v0 v1 : Value} {b0 b1 : List Int} (h : BAt w0 W p S T own) (hv0 : Sl .u8 W v0 b0) (hv1 : Sl .u8 W v1 b1) (hB0 : IsBytes b0) (hB1 : IsBytes b1)
    (hc0 : b0 ≠ [] → ∀ b off len cap, v0 = .slice (some ⟨b, off, none⟩) len cap → b < w0.heap.size ∨ own b) (hc1 : b1 ≠ [] → ∀ b off len cap, v1 = .slice (some ⟨b, off, none⟩) len cap → b < w0.heap.size ∨ own b) (hm : S.Few 1000000) :
    Calls Try.prog 18 #[.pointer (some ⟨p.rb, 0, none⟩), v0, v1] W fun e w' => e = .returned (.tuple #[]) ∧ BAt w0 w' p (S.crash b0 b1) T own ∧ ∀ k, own k → w'.heap[k]? = W.heap[k]? :=
  BAt.first (R := fun e _ => e = .returned (.tuple #[])) h fun f hf hk => by
    refine hf.crash hv0 hv1 hB0 hB1 (fun hn b off len cap e hfb => ?_) (fun hn b off len cap e hfb => ?_) hm
    · rcases hc0 hn b off len cap e with h' | h'
      · have := (hk b hfb).1; omega
      · exact (hk b hfb).2 h'
    · rcases hc1 hn b off len cap e with h' | h'
      · have := (hk b hfb).1; omega
      · exact (hk b hfb).2 h'
set_option maxRecDepth 100000 in
theorem BAt.crash2 {v0 v1 : Value} {b0 b1 : List Int} (h : BAt w0 W p S T own) (hv0 : Sl .u8 W v0 b0) (hv1 : Sl .u8 W v1 b1) (hB0 : IsBytes b0) (hB1 : IsBytes b1)
    (hc0 : b0 ≠ [] → ∀ b off len cap, v0 = .slice (some ⟨b, off, none⟩) len cap → b < w0.heap.size ∨ own b) (hc1 : b1 ≠ [] → ∀ b off len cap, v1 = .slice (some ⟨b, off, none⟩) len cap → b < w0.heap.size ∨ own b) (hm : T.Few 1000000) :
    Calls Try.prog 19 #[.pointer (some ⟨p.rq, 0, none⟩), v0, v1] W fun e w' => e = .returned (.tuple #[]) ∧ BAt w0 w' p S (T.crash b0 b1) own ∧ ∀ k, own k → w'.heap[k]? = W.heap[k]? :=
  BAt.second (R := fun e _ => e = .returned (.tuple #[])) h fun f hf hk => by
    refine hf.crash hv0 hv1 hB0 hB1 (fun hn b off len cap e hfb => ?_) (fun hn b off len cap e hfb => ?_) hm
    · rcases hc0 hn b off len cap e with h' | h'
      · have := (hk b hfb).1; omega
      · exact (hk b hfb).2 h'
    · rcases hc1 hn b off len cap e with h' | h'
      · have := (hk b hfb).1; omega
      · exact (hk b hfb).2 h'
set_option maxRecDepth 100000 in
theorem BAt.read (h : BAt w0 W p S T own) (dev i : Int) :
    Calls Try.prog 23 #[.pointer (some ⟨p.rb, 0, none⟩), .int .i64 dev, .int .i64 i] W fun e w' => e = .returned (.tuple #[.agg (S.read dev i).toArray, .int .i64 (S.readE dev i)]) ∧ Below W.heap.size W w' := by
  obtain ⟨f, hf⟩ := h.rig; exact hf.read dev i
set_option maxRecDepth 100000 in
theorem BAt.read2 (h : BAt w0 W p S T own) (dev i : Int) :
    Calls Try.prog 59 #[.pointer (some ⟨p.rq, 0, none⟩), .int .i64 dev, .int .i64 i] W fun e w' => e = .returned (.tuple #[.agg (T.read dev i).toArray, .int .i64 (T.readE dev i)]) ∧ Below W.heap.size W w' := by
  obtain ⟨f, hf⟩ := h.ref; exact hf.read dev i
set_option maxRecDepth 100000 in
theorem BAt.len (h : BAt w0 W p S T own) (dev : Int) :
    Calls Try.prog 52 #[.pointer (some ⟨p.rb, 0, none⟩), .int .i64 dev] W fun e w' => e = .returned (.int .i64 (S.len dev : Int)) ∧ Below W.heap.size W w' := by
  obtain ⟨f, hf⟩ := h.rig; exact hf.len dev
theorem BAt.okRead (h : BAt w0 W p S T own) (dev i : Int) : IsBlk (S.read dev i) := by
  obtain ⟨f, h1⟩ := h.rig
  unfold RS.read
  split
  · next hh => exact h1.okLook hh.1
  · exact isBlk_fill 0
/-- What the document's own one says of itself. -/
theorem BAt.cell (h : BAt w0 W p S T own) (j : Nat) : W.cell? ⟨p.rq, j, none⟩ = (T.head p.q0 p.q1)[j]? := by
  obtain ⟨f, hf⟩ := h.ref; exact Sep.cell hf j
theorem BAt.frozen (h : BAt w0 W p S T own) (j : Nat) : W.frozen? ⟨p.rq, j, none⟩ = false := by
  obtain ⟨f, hf⟩ := h.ref; exact Sep.frozen hf j
theorem BAt.rq_lt (h : BAt w0 W p S T own) : p.rq < W.heap.size := by obtain ⟨f, hf⟩ := h.ref; exact hf.rq_lt
theorem BAt.disk0 (h : BAt w0 W p S T own) : ∃ ss, W.cell? ⟨p.q0, 0, none⟩ = some (.slice (some ⟨ss, 0, none⟩) T.n0 T.n0) ∧ p.q0 < W.heap.size ∧ ss < W.heap.size ∧ ∀ i, i < T.n0 → W.rangeAt ss (i * 64) (T.D0 i).c ∧ IsBlk (T.D0 i).c := by
  obtain ⟨f, hf⟩ := h.ref
  obtain ⟨g, ⟨ss, vb, sv, h1, rfl⟩, h2⟩ := hf.d0
  exact ⟨ss, by rw [cell_of_row _ _ _ _ _ _ h1.head]; rfl, h1.lt h2 (.inl rfl), h1.lt h2 (.inr (.inl rfl)), fun i hi => ⟨h1.cont i hi, (h1.ok i hi).1⟩⟩
theorem BAt.disk1 (h : BAt w0 W p S T own) : ∃ ss, W.cell? ⟨p.q1, 0, none⟩ = some (.slice (some ⟨ss, 0, none⟩) T.n1 T.n1) ∧ p.q1 < W.heap.size ∧ ss < W.heap.size ∧ ∀ i, i < T.n1 → W.rangeAt ss (i * 64) (T.D1 i).c ∧ IsBlk (T.D1 i).c := by
  obtain ⟨f, hf⟩ := h.ref
  obtain ⟨g, ⟨ss, vb, sv, h1, rfl⟩, h2⟩ := hf.d1
  exact ⟨ss, by rw [cell_of_row _ _ _ _ _ _ h1.head]; rfl, h1.lt h2 (.inl rfl), h1.lt h2 (.inr (.inl rfl)), fun i hi => ⟨h1.cont i hi, (h1.ok i hi).1⟩⟩
/-- Its fuse is set. -/
theorem BAt.fuse2 (h : BAt w0 W p S T own) (n : Int) : BAt w0 (W.setCell ⟨p.rq, 2, none⟩ (.int .i64 n)) p S { T with fuse := n } own ∧ ∀ k, own k → (W.setCell ⟨p.rq, 2, none⟩ (.int .i64 n)).heap[k]? = W.heap[k]? := by
  obtain ⟨f, ⟨f1, f2, h1, h2, h3, rfl⟩, g2, g3, g4⟩ := h
  obtain ⟨a1, a2⟩ := Sep.set (T.disks2_isRes p.q0 p.q1) h2 2 (.int .i64 n)
  have a1' : RigQ p.rq p.q0 p.q1 { T with fuse := n } (W.setCell ⟨p.rq, 2, none⟩ (.int .i64 n)) f2 := a1
  obtain ⟨f', b1, b2⟩ := Turn.first (RigQ.isRes _ _ _ _) (RigR.isRes _ _ _ _) h2 h1 (fun k a b => h3 k b a) ⟨f2, a1', a2⟩
  have hsw : (fun k => f2 k ∨ f1 k) = fun k => f1 k ∨ f2 k := by funext k; exact propext or_comm
  rw [hsw] at b2
  exact AtR.turned (bothRes _ _ _) g2 g3 g4 ⟨f', b1.swap, b2⟩
/-- Both made. -/
theorem BAt.new (n0 n1 : Nat) (w0 w w1 : World) (rb p0 p1 rq q0 q1 : Nat) (h1 : RAt w0 w rb p0 p1 (newS n0 n1) (fun _ => False)) (h : ∃ f, RigQ rq q0 q1 (newS n0 n1) w1 f ∧ ∀ k, f k → w.heap.size ≤ k) (hb : Below w.heap.size w w1) :
    BAt w0 w1 ⟨rb, p0, p1, rq, q0, q1⟩ (newS n0 n1) (newS n0 n1) (fun _ => False) := by
  obtain ⟨f, g1, g2⟩ := h
  obtain ⟨f1, a1, a2, a3, a4⟩ := h1
  have hlt := (RigR.isRes rb p0 p1 (newS n0 n1)).lt a1
  refine ⟨fun k => f1 k ∨ f k, ⟨f1, f, (RigR.isRes _ _ _ _).below a1 hb, g1, fun k x y => ?_, rfl⟩, fun k hk => ⟨?_, fun h => h⟩, fun _ h => h.elim, a4.trans (hb.mono a4.size)⟩
  · have := hlt k x; have := g2 k y; omega
  · rcases hk with hk | hk
    · exact (a2 k hk).1
    · exact Nat.le_trans a4.size (g2 k hk)
end

/-- A world in which block B is as in W. -/
def Keep (B : Nat) (W : World) : Type := {x : World // x.heap[B]? = W.heap[B]?}
instance (B : Nat) (W : World) : Nonempty (Keep B W) := ⟨⟨W, rfl⟩⟩
end Go.Proofs.Ytfmgaakbfphpbaa

