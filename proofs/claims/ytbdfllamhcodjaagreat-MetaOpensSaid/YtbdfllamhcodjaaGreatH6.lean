/- The ground of the proofs, part 6. -/
import Derived.Test.YtbdfllamhcodjaaGreatH5
import Derived.Test.YtbdfllamhcodjaaGreatProg
import Derived.WalkKit
import Derived.Below
import Derived.Lib.Hide
import Derived.Lib.Bytes
import Derived.LoopTactic
import Derived.Laws.BitsAllLaws
/- The developers' Commit. -/
namespace Go.Proofs.YtbdfllamhcodjaaGreat
open Go.RowKit Go.Shelf
set_option linter.unusedVariables false
attribute [-simp] Tryz.isAgg60 Tryz.zeroValue60 Tryz.isAgg112 Tryz.zeroValue112 Tryz.isAgg189 Tryz.zeroValue189 Tryz.isAgg133 Tryz.zeroValue133 Tryz.isAgg114 Tryz.zeroValue114 Tryz.isAgg105 Tryz.zeroValue105 Tryz.isAgg23 Tryz.zeroValue23
attribute [-go_sem] loadVar storeVar run_equalIn_agg
set_option maxRecDepth 100000 in
theorem zero_spot (w : World) : (zeroValue 103).run Tryz.prog w = .ok (.agg #[.int .i64 0, .int .u32 0]) w := by kernel_rfl
attribute [local go_sem] zero_spot zero_blk build_blk zero_bod zero_pg build_pg build_pg0 build_pg2 zero_imgD zero_wr zero_sup zero_geoM build_geoM loadVar_openV storeVar_openV build_spot Oper.semAt_some

section
set_option maxRecDepth 100000
set_option maxHeartbeats 20000000
set_option maxRecDepth 100000 in
/-- **Commit**. -/
theorem mvCommit {rb p0 p1 m : Nat} {S : RS} {M : MS} {w : World} {f : Nat → Prop} (h : Sep (RigR rb p0 p1 S) (MemX m rb M) w f) (hr : S.Rdy) (hok : M.Ok S) {v : Value} {bs : List Int} (hv : Sl .u8 w v bs) (hbs : IsBytes bs) (hl : bs.length = M.b.length) (ha : Away v f) :
    Calls Tryz.prog 19 #[.pointer (some ⟨m, 0, none⟩), v] w fun e w' => e = .returned (.int .i64 (S.cmt M bs).2) ∧ ∃ f', (if (S.cmt M bs).2 = 0 then Sep (RigR rb p0 p1 (S.cmt M bs).1) (MemX m rb (M.next bs)) else RigR rb p0 p1 (S.cmt M bs).1) w' f' ∧ Turn f f' w w' := by
  obtain ⟨Po, hPo⟩ : ∃ Po : Res, (if (S.cmt M bs).2 = 0 then Sep (RigR rb p0 p1 (S.cmt M bs).1) (MemX m rb (M.next bs)) else RigR rb p0 p1 (S.cmt M bs).1) = Po := ⟨_, rfl⟩
  have HPO := Lib.hid hPo
  rw [hPo]
  obtain ⟨er, her⟩ : ∃ er, (S.cmt M bs).2 = er := ⟨_, rfl⟩
  have HER := Lib.hid her
  rw [her]
  have HSEP := Lib.hid h
  obtain ⟨f1, f2, hR, ⟨Bb, cb, Bh, ch, a, q, hM, hf2⟩, hD, hf⟩ := h
  subst hf2
  have hN := Geo.nats hok.good
  have HFF := Lib.hid hf
  have hpc := hok.pcs
  have hpc' := hok.pcs' hl
  have hb2 : M.b.length ≤ 714 := by have := hok.len; have := hN.b2; omega
  have HCK := Lib.hid (cutL_ok hbs)
  have HCP : Hid (∀ x, Below w.heap.size w x → Calls Tryz.prog 65 #[.pointer (some ⟨m, 0, none⟩)] x fun e w' => e = .returned (.int .i64 (S.bat [M.homW, M.supW]).2) ∧ ∃ f', (if (S.bat [M.homW, M.supW]).2 = 0 then Sep (RigR rb p0 p1 (S.bat [M.homW, M.supW]).1) (MemX m rb M.ckpt) else RigR rb p0 p1 (S.bat [M.homW, M.supW]).1) w' f' ∧ Turn f f' x w') := fun x hx => mvCheckpoint (((RigR.isRes rb p0 p1 S).sep (MemX.isRes m rb M)).below HSEP.out hx) hr hok
  have HHL : Hid ((cutL bs).length = M.g.P) := by show _ = _; rw [cutL_len, hpc']
  have HHW : Hid ((cutL M.b).length = M.g.P) := by show _ = _; rw [cutL_len, hpc]
  have HDI := Lib.hid (dif_imgs hok hl)
  have HT1 : Hid (M.dif bs ≠ [] → TailOk S M (M.dif bs)) := fun hd => hok.tail hr hl hbs hd
  have HT2 : Hid (M.dif bs ≠ [] → TailOk (S.bat [M.homW, M.supW]).1 M.ckpt (M.dif bs)) := fun hd => hok.tail2 hr hl hbs hd
  have HOK := Lib.hid hok
  have HRY := Lib.hid hr
  have HM := Lib.hid hM
  have HR := Lib.hid hR
  have HVS := Lib.hid hv
  have HBS := Lib.hid hbs
  have HLN := Lib.hid hl
  have HVA := Lib.hid ha
  have HD : Hid (∀ k, f1 k → k ≠ m ∧ k ≠ Bb ∧ k ≠ Bh) := fun k hk => ⟨fun e => hD k hk (.inl e), fun e => hD k hk (.inr (.inl e)), fun e => hD k hk (.inr (.inr e))⟩
  have hP2 : 2 ≤ M.g.P := hN.p1
  have hP15 : M.g.P ≤ 15 := hN.p2
  obtain ⟨P, hP⟩ : ∃ P, M.g.P = P := ⟨_, rfl⟩
  rw [hP] at hP2 hP15 HHL HHW HDI hpc hpc'
  have hmx : Tryz.prog.follows .mixedOrders = true := by kernel_rfl
  have c1 : w.cell? ⟨m, 1, none⟩ = some (.slice (some ⟨Bb, 0, none⟩) M.b.length cb) := hM.row.cell 1 _ rfl
  have HCUT1 : Hid (∀ x, Below w.heap.size w x → Calls Tryz.prog 48 #[.slice (some ⟨Bb, 0, none⟩) M.b.length cb] x fun e w' => ∃ g c cur, e = .returned (.slice (some ⟨g, 0, none⟩) P c) ∧ PgsR w' (.slice (some ⟨g, 0, none⟩) P c) g (cutL M.b) ∧ x.heap.size ≤ g ∧ w'.heap[g]? = some (.cells cur 112 (0, 0)) ∧ Below x.heap.size x w') := fun x hx => by
    have := cutP x (hM.below hx).sl hok.bytes (by omega) (by rw [hpc]; omega)
    rwa [hpc] at this
  have HCUT2 : Hid (∀ x, Below w.heap.size w x → Calls Tryz.prog 48 #[v] x fun e w' => ∃ g c cur, e = .returned (.slice (some ⟨g, 0, none⟩) P c) ∧ PgsR w' (.slice (some ⟨g, 0, none⟩) P c) g (cutL bs) ∧ x.heap.size ≤ g ∧ w'.heap[g]? = some (.cells cur 112 (0, 0)) ∧ Below x.heap.size x w') := fun x hx => by
    have := cutP x (hv.below hx) hbs (by omega) (by rw [hpc']; omega)
    rwa [hpc'] at this
  have hne : bs ≠ [] := by intro e; rw [e] at hl; have := hM.b0; simp at hl; omega
  obtain ⟨Bv, ov, cv, rfl, hvl⟩ : ∃ Bv ov cv, v = .slice (some ⟨Bv, ov, none⟩) bs.length cv ∧ Bv < w.heap.size := by
    obtain ⟨a', c', e, _, _, hla, _⟩ := hv
    rcases hla with h0 | ⟨b', o', e', h3, _⟩
    · exact absurd h0 hne
    · exact ⟨b', o', c', by rw [e, e'], h3⟩
  have HVF : Hid (¬ f1 Bv ∧ Bv ≠ m ∧ Bv ≠ Bb ∧ Bv ≠ Bh ∧ Bv < w.heap.size) := by
    have hn := ha Bv ov bs.length cv rfl
    rw [hf] at hn
    exact ⟨fun h => hn (.inl h), fun h => hn (.inr (.inl h)), fun h => hn (.inr (.inr (.inl h))), fun h => hn (.inr (.inr (.inr h))), hvl⟩
  obtain ⟨n, hn⟩ : ∃ n, M.b.length = n := ⟨_, rfl⟩
  have HN := Lib.hid hn
  rw [hl, hn] at HVS HVA HCUT2
  rw [hn] at c1 HCUT1
  rw [hl, hn]
  clear hR hM hD hN hpc hpc' hb2 hr hok hbs hl hne hP hn hv ha hf hPo her hvl
  refine (callsIn_wide (n := 3)).1 ?_
  refine callsIn_of_wp_marks Tryz.func19 rfl trivial ?_ rfl
  simp only [Tryz.ntmps19, List.size_toArray, List.length_cons, List.length_nil, Nat.reduceAdd, Nat.reduceSub, Array.replicate_succ, Array.replicate_zero, List.push_toArray, List.append_toArray, List.nil_append, List.cons_append]
  obtain ⟨W0, hW0⟩ : ∃ W, w.alloc (.cells #[.slice none 0 0] 130) = W := ⟨_, rfl⟩
  have b0 : Below w.heap.size w W0 := by rw [← hW0]; exact below_new w _
  have hbx : Boxed W0 w.heap.size 130 (.slice none 0 0) := by rw [← hW0]; exact Boxed.new w _ _
  have c1' : W0.cell? ⟨m, 1, none⟩ = some (.slice (some ⟨Bb, 0, none⟩) n cb) := (b0.cell (p := ⟨m, 1, none⟩) HM.out.lt.1).trans c1
  obtain ⟨Bi, hBi⟩ : ∃ b, w.heap.size = b := ⟨_, rfl⟩
  have HBI := Lib.hid hBi
  rw [hBi] at hbx
  have HZ0 : Hid (W0.heap.size = Bi + 1) := by show _ = _; rw [← hW0, World.size_alloc, hBi]
  have HB0 := Lib.hid b0
  have HX0 := Lib.hid hbx
  clear b0 hbx
  gi_wp2_with (first | (refine ⟨trivial, ?_⟩; gi_at_call 48; refine (callsIn_wide.2 (HCUT1.out W0 HB0.out)).mono ?_; rintro e x1 ⟨Bp, cp, cur, rfl, hpg, hBp, hcur, hb⟩; have K1 : Hid (Below w.heap.size w x1) := HB0.out.trans (hb.mono HB0.out.size); have X1 : Hid (Boxed x1 Bi 130 (.slice none 0 0)) := HX0.out.kept (grown_below hb none) (by simp); have P1 := Lib.hid hpg; have Z01 : Hid (W0.heap.size ≤ x1.heap.size) := hb.size; have L1 : Hid (W0.heap.size ≤ Bp) := hBp; clear hpg hBp hcur hb HX0 HB0) | (refine ⟨trivial, ?_⟩; gi_at_call 48; refine (callsIn_wide.2 (HCUT2.out x1 K1.out)).mono ?_; rintro e x2 ⟨Bq, cq, cur2, rfl, hpg, hBp, hcur, hb⟩; have K2 : Hid (Below w.heap.size w x2) := K1.out.trans (hb.mono K1.out.size); have X2 : Hid (Boxed x2 Bi 130 (.slice none 0 0)) := X1.out.kept (grown_below hb none) (by simp); have P2 := Lib.hid hpg; have P1' := Lib.hid (P1.out.below hb); have L2 : Hid (x1.heap.size ≤ Bq ∧ W0.heap.size ≤ x1.heap.size) := ⟨hBp, Z01.out⟩; clear hpg hBp hcur hb X1 P1 K1) | (refine ⟨trivial, ?_⟩; gi_at_call 63; refine (callsIn_wide.2 (differing_run _ _ _ _ _ _ x2)).mono ?_; rintro e x3 ⟨rfl, hx3⟩; have HX3 := Lib.hid hx3; clear hx3))
  have hx3 := HX3.out
  obtain ⟨Bw, hBw⟩ : ∃ b, x2.heap.size = b := ⟨_, rfl⟩
  have b3 : Below x2.heap.size x2 x3 := by rw [hx3]; exact (below_new x2 _).trans ((below_new _ _).mono (by simp))
  have hPW : PgsB x3 Bw Bp (cutL M.b) := by
    refine ⟨⟨.slice (some ⟨Bp, 0, none⟩) P cp, ?_, P1'.out.below b3⟩, ?_⟩
    · rw [hx3, ← hBw]; exact (Boxed.new x2 _ _).alloc _
    · rw [hx3, ← hBw, World.size_alloc, World.size_alloc]; omega
  have hPN : PgsB x3 (Bw + 1) Bq (cutL bs) := by
    refine ⟨⟨.slice (some ⟨Bq, 0, none⟩) P cq, ?_, P2.out.below b3⟩, ?_⟩
    · rw [hx3, ← hBw]
      have := Boxed.new (x2.alloc (.cells #[.slice (some ⟨Bp, 0, none⟩) P cp] 50)) 50 (.slice (some ⟨Bq, 0, none⟩) P cq)
      rwa [World.size_alloc] at this
    · rw [hx3, ← hBw, World.size_alloc, World.size_alloc]; omega
  have hlt3 : ∀ k, SD (Bw + 1) Bq Bw Bp k → k < x3.heap.size ∧ k ≠ Bi := by
    have hz := HZ0.out
    have h2 := L2.out
    have h1 := L1.out
    have h3 := b3.size
    have hp1 := P1'.out.lt
    have hp2 := P2.out.lt
    rintro k (rfl | rfl | rfl | rfl)
    · exact ⟨hPN.lt, by omega⟩
    · exact ⟨by omega, by omega⟩
    · exact ⟨hPW.lt, by omega⟩
    · exact ⟨by omega, by omega⟩
  have HLT := Lib.hid hlt3
  have HBX : Hid (Boxed x3 Bi 130 (.slice none 0 0)) := X2.out.kept (grown_below b3 none) (by simp)
  have K3 : Hid (Below w.heap.size w x3) := K2.out.trans (b3.mono K2.out.size)
  have HIT := Lib.hid (differing_stops 2 (by omega) (Bw + 1) Bq Bw Bp P (cutL M.b) (cutL bs) HHL.out HHW.out x3 hPN hPW)
  have HBl : Hid (Bi < x3.heap.size) := HBX.out.lt
  have HLB := Lib.hid (fun x hx => (HCK.out x hx).1)
  have HKA : Hid (∀ (W W' : World), x3.heap.size ≤ W.heap.size → Below W.heap.size W W' → KpC (SD (Bw + 1) Bq Bw Bp) W W') := fun W W' h h' => ⟨h'.size, fun k hk => h'.block k (Nat.lt_of_lt_of_le (HLT.out k hk).1 h)⟩
  rw [hBw]
  clear b3 hPW hPN hlt3 hx3 hBw hW0 c1' P1' P2 X2 HCUT1 HCUT2
  refine wpIn_rangeFunc_ownH (n := 3) rfl (by omega) (gf := 107) (lb := #[.pointer (some ⟨Bw + 1, 0, none⟩), .pointer (some ⟨Bw, 0, none⟩)]) rfl trivial (enters_of Tryz.func107 (by kernel_rfl) rfl)
    HIT.out kpC_t (kpC_b (fun k hk => (HLT.out k hk).1)) (Below.refl _ _) (fun _ => rfl)
    (fun pre W => (∃ v, Boxed W Bi 130 v ∧ W.ownsRow x3.heap.size 133 49 v (imgR (imgsP (cutL bs) pre)).length (imgR (imgsP (cutL bs) pre)).flatten) ∧ (x3.heap.size ≤ W.heap.size ∧ ∀ k, k < x3.heap.size → k ≠ Bi → W.heap[k]? = x3.heap[k]?) ∧ Below Bi w W)
    (fun _ _ _ => False)
    ?hI ?hIx ⟨⟨_, HBX.out, World.ownsRow_nil _ _ _ _⟩, ⟨Nat.le_refl _, fun _ _ _ => rfl⟩, by rw [← hBi]; exact K3.out⟩
    (fun x a' W => ∃ C, x3.heap.size ≤ C ∧ RowC W C 112 (u8s (pgAt (cutL bs) x.1)) ∧ a' = { tmps := #[.pointer (some ⟨m, 0, none⟩), .slice (some ⟨Bv, ov, none⟩) n cv, undef, undef, .int .i64 0, .pointer (some ⟨Bi, 0, none⟩), .int .i64 (x.1 : Int), .pointer (some ⟨C, 0, none⟩), undef, undef, undef, undef, .pointer (some ⟨m, 0, none⟩), .bool false, .bool false, .slice (some ⟨Bv, ov, none⟩) n cv, .int .i64 (n : Int), .pointer (some ⟨m, 0, none⟩), .pointer (some ⟨m, 0, none⟩), .pointer (some ⟨m, 1, none⟩), .slice (some ⟨Bb, 0, none⟩) n cb, .int .i64 (n : Int), .bool false, .bool false, .pointer (some ⟨m, 0, none⟩), .pointer (some ⟨m, 0, none⟩), .pointer (some ⟨m, 1, none⟩), .slice (some ⟨Bb, 0, none⟩) n cb, .slice (some ⟨Bp, 0, none⟩) P cp, .slice (some ⟨Bv, ov, none⟩) n cv, .slice (some ⟨Bq, 0, none⟩) P cq, .func (.func 107) #[] #[.pointer (some ⟨Bw + 1, 0, none⟩), .pointer (some ⟨Bw, 0, none⟩)], .int .i64 (x.1 : Int), .agg (u8s (pgAt (cutL bs) x.1)).toArray, undef, undef, undef, undef, undef, undef, undef, undef, undef, undef, undef, undef, undef, undef, undef, undef, undef, undef, undef, undef, undef, undef, undef, undef, undef, undef, undef, undef, undef, undef, undef, undef, undef, undef, undef, undef, undef, undef, undef, undef, undef, undef, undef, undef, undef, undef, undef, undef, undef, undef, undef, undef, undef, undef, undef, undef, undef, undef, undef, undef, undef, undef, undef, undef, undef, undef, undef, undef, undef, undef, undef, undef, undef, undef, undef, undef, undef], defers := [] })
    ?hAx ?assign ?body ?done ?stop
  case hI =>
    rintro s X Y row ⟨⟨v, h1, h2⟩, ⟨h3, h4⟩, h5⟩ hg hr
    exact ⟨⟨v, boxed_own _ _ (fun _ : Unit => _) () X Y row h1 hg (fun r e => (hr r e).2), ownsRow_from h2 hg hr⟩, ⟨Nat.le_trans h3 hg.size, fun k hk hn => (hg.block k (Nat.lt_of_lt_of_le hk h3) (fun e => by have := (hr k e.symm).1; omega)).trans (h4 k hk hn)⟩, ownFrom_below (β := Unit) (B := x3.heap.size) (Nat.le_of_eq hBi.symm) (by have := HBl.out; omega) () X Y row h5 hg hr⟩
  case hIx => exact fun _ _ _ _ _ h _ _ => h.elim
  case assign =>
    rintro l pre x W K ⟨⟨v, h1, h2⟩, ⟨h3, h4⟩, h5⟩ hK
    have hxn : (pgAt (cutL bs) x.1).length = 48 := by
      have hx : x.1 < (cutL bs).length := by rw [HHL.out]; exact x.2
      have e : (cutL bs)[x.1]? = some (pgAt (cutL bs) x.1) := by unfold pgAt; rw [List.getElem?_eq_getElem hx]; rfl
      exact HLB.out _ (List.mem_of_getElem? e)
    obtain ⟨y, ST, hr, hb⟩ := new_bod W hxn
    obtain ⟨C, hC⟩ : ∃ C, W.heap.size = C := ⟨_, rfl⟩
    have hlt : x3.heap.size ≤ C := by omega
    have hK := hK _ y ((KeepsOthers.of_grownBy (grown_below hb none) (fun j o e => by cases e)).from _) (HKA.out W y h3 hb) ⟨⟨v, (hb.block _ h1.lt).trans h1, own_below h2 hb⟩, ⟨Nat.le_trans h3 hb.size, fun k hk hn => (hb.block k (Nat.lt_of_lt_of_le hk h3)).trans (h4 k hk hn)⟩, h5.trans (hb.mono (by have := h1.lt; omega))⟩ ⟨C, hlt, by rw [← hC]; exact hr, rfl⟩
    rw [hC] at ST
    clear h1 h2 h3 h4 h5 hr hb hxn hlt
    dsimp only [encPg]
    gi_wp2
    exact hK
  case hAx =>
    rintro x a' _ X Y row ⟨C, h1, h2, h3⟩ hg hr
    exact ⟨C, h1, rowC_from h2 hg hr, h3⟩
  case body =>
    rintro l pre x a' W _ _ ⟨⟨v, h1, h2⟩, ⟨h3, h4⟩, h5⟩ ⟨C, hC, hx, rfl⟩ hlen
    have hxm := x.2
    have hxl : x.1 < (cutL bs).length := by rw [HHL.out]; exact x.2
    have hpx : (cutL bs)[x.1]? = some (pgAt (cutL bs) x.1) := by unfold pgAt; rw [List.getElem?_eq_getElem hxl]; rfl
    have hp48 := HLB.out _ (List.mem_of_getElem? hpx)
    obtain ⟨ra, nv, cv', hv⟩ := row_slice h2
    subst hv
    have c0 : W.cell? ⟨Bi, 0, none⟩ = some (.slice ra nv cv') := h1.cell
    have c2 : (loadVar 112 ⟨C, 0, none⟩).run Tryz.prog W = .ok (.agg (u8s (pgAt (cutL bs) x.1)).toArray) W := hx.body hp48
    have HWC := Lib.hid (imgsP_snoc (cutL bs) pre x)
    have BI : Hid ((Instr.build 133 #[(0, .int .i64 (x.1 : Int)), (1, .agg (u8s (pgAt (cutL bs) x.1)).toArray)]).run Tryz.prog W = .ok (.agg (Img.cells ⟨(x.1 : Int), pgAt (cutL bs) x.1⟩).toArray) W) := build_imgD (x.1 : Int) (u8s (pgAt (cutL bs) x.1)) (by rw [u8s_length]; exact hp48) W
    have hil : (Img.cells ⟨(x.1 : Int), pgAt (cutL bs) x.1⟩).length = 49 := Img.cells_length hp48
    obtain ⟨IC, hIC⟩ : ∃ c, Img.cells ⟨(x.1 : Int), pgAt (cutL bs) x.1⟩ = c := ⟨_, rfl⟩
    have hi1 : ∀ v ∈ IC, v.oneCell' = true := by rw [← hIC]; exact Img.cells_one _
    rw [hIC] at HWC BI hil
    obtain ⟨x4, hx4⟩ : ∃ y, W.alloc (.cells IC.toArray 133) = y := ⟨_, rfl⟩
    have SB : Hid ((Instr.buildSlice 130 1 #[(0, .agg IC.toArray)]).run Tryz.prog W = .ok (.slice (some ⟨W.heap.size, 0, none⟩) 1 1) x4) := by show _ = _; rw [← hx4]; exact slice_imgD W _ hil
    have b4 : Below W.heap.size W x4 := by rw [← hx4]; exact below_new W _
    have O4 := own_below h2 b4
    have hBiW : Bi < W.heap.size := h1.lt
    obtain ⟨v5, x5, r5, o5, g5, -⟩ := append_imgD x3.heap.size x4 (.slice ra nv cv') (imgR (imgsP (cutL bs) pre)) IC W.heap.size O4 hil hi1 (row_range (t := 133) (by rw [← hx4]; exact heap_alloc_new W _)) (by simp [imgR, imgsP]; omega) (Nat.le_trans h3 b4.size)
    rw [← HWC.out] at o5
    obtain ⟨ra5, n5, c5, hv5⟩ := row_slice o5
    subst hv5
    have R5 := Lib.hid r5
    have h14 : Boxed x4 Bi 130 (.slice ra nv cv') := h1.kept (grown_below b4 none) (by simp)
    have h15 := h14.kept g5 (h14.not_row (by decide) O4)
    have B4 : Below Bi w x4 := h5.trans (b4.mono (by omega))
    have hB3 : Bi < x3.heap.size := HBl.out
    have B5 : Below Bi w x5 := B4.grown g5 (by have := b4.size; omega) (fun j e => by have := (O4.lt j e).1; omega)
    obtain ⟨y, hy⟩ : ∃ y, x5.setCell ⟨Bi, 0, none⟩ (.slice ra5 n5 c5) = y := ⟨_, rfl⟩
    have gy : x5.grownBy y (some Bi) := by rw [← hy]; exact grownBy_setCell' x5 Bi _
    have h1y : Boxed y Bi 130 (.slice ra5 n5 c5) := by rw [← hy]; exact h15.set _
    have h2y := o5.kept gy (.inr (fun e => h15.not_row (by decide) o5 e.symm))
    have h5y : Below Bi w y := B5.grown gy (by have := b4.size; have := g5.size; omega) (fun j e => by cases e; exact Nat.le_refl _)
    have hblk : ∀ k, k < x3.heap.size → k ≠ Bi → y.heap[k]? = x3.heap[k]? := fun k hk hn => by
      have hkW : k < W.heap.size := Nat.lt_of_lt_of_le hk h3
      have a1 : y.heap[k]? = x5.heap[k]? := gy.block k (by have := b4.size; have := g5.size; omega) (fun e => hn (by cases e; rfl))
      have a2 : x5.heap[k]? = x4.heap[k]? := g5.block k (by have := b4.size; omega) (fun e => by
        have := (O4.lt k e.symm).1
        omega)
      rw [a1, a2, b4.block k hkW]
      exact h4 k hk hn
    have KF : KeepsFrom x3.heap.size W y := (((KeepsOthers.of_grownBy (grown_below b4 none) (fun j o e => by cases e)).trans (KeepsOthers.of_grownBy g5 (fun j o hj hoj => row_cells O4 hj hoj))).trans (by rw [← hy]; exact KeepsOthers.setCell _ _ _)).from _
    have KS : KpC (SD (Bw + 1) Bq Bw Bp) W y := ⟨Nat.le_trans b4.size (Nat.le_trans g5.size gy.size), fun j hj => by
      have h := HLT.out j hj
      rw [hblk j h.1 h.2, h4 j h.1 h.2]⟩
    have POST : Hid (KeepsFrom x3.heap.size W y ∧ KpC (SD (Bw + 1) Bq Bw Bp) W y ∧ (∃ v, Boxed y Bi 130 v ∧ y.ownsRow x3.heap.size 133 49 v (imgR (imgsP (cutL bs) (pre ++ [x]))).length (imgR (imgsP (cutL bs) (pre ++ [x]))).flatten) ∧ (x3.heap.size ≤ y.heap.size ∧ ∀ k, k < x3.heap.size → k ≠ Bi → y.heap[k]? = x3.heap[k]?) ∧ Below Bi w y) := ⟨KF, KS, ⟨_, h1y, h2y⟩, ⟨Nat.le_trans h3 (Nat.le_trans b4.size (Nat.le_trans g5.size gy.size)), hblk⟩, h5y⟩
    have c5' := h15.cell
    have f5' := h15.frozen
    clear hxm hxl hpx hp48 hIC hi1 hil hx4 b4 O4 hBiW r5 o5 g5 h14 h15 B4 B5 gy h1y h2y h5y hblk KF KS h1 h2 h3 h4 h5 hx
    gi_step
    gi_step
    refine region_seq_round (letsOut_inBlock letsOut_ownG) (by kernel_rfl) ?_
    go_wp2_with (first | ((with_reducible refine gate_struct 133 ?_); refine wpList_struct_run _ _ rfl rfl [(0, .int .i64 (x.1 : Int)), (1, .agg (u8s (pgAt (cutL bs) x.1)).toArray)] _ rfl BI.out ?_) | ((with_reducible refine gate_build ?_); refine wpList_build_run _ _ _ rfl rfl [(0, .agg IC.toArray)] _ rfl SB.out ?_) | (at_builtin; refine wpList_append_run (.tmp 34) (.tmp 38) 130 rfl rfl _ _ _ rfl rfl R5.out ?_))
    exact POST.out
  case done =>
    rintro D xs W hD rfl ⟨⟨vi, h1, h2⟩, ⟨h3, h4⟩, h5⟩ hK
    rw [← HDI.out] at h2
    have hBi3 : Bi < x3.heap.size := HBl.out
    have HMW : Hid (MemAt m rb Bb cb Bh ch a q M W) := by
      have hl := HM.out.lt
      exact HM.out.keep (h5.block m (by omega)) (h5.block Bb (by omega)) (h5.block Bh (by omega))
    have HBW : Hid (Below w.heap.size w W) := by show Below _ _ _; rw [hBi]; exact h5
    have HRW : Hid (RigR rb p0 p1 S W f1) := HR.out.beside HBW.out
    have HKD := Lib.hid hK
    have H1 := Lib.hid h1
    have H2 := Lib.hid h2
    have HDD : Hid (w.heap.size ≤ D) := by show _ ≤ _; omega
    obtain ⟨t, ht⟩ : ∃ t, M.dif bs = t := ⟨_, rfl⟩
    rw [ht] at H2 HT1 HT2
    have HT := Lib.hid ht
    have htl : (imgR t).length = t.length := imgR_length t
    rw [htl] at H2
    obtain ⟨ri, ci, hvi, hrow⟩ := row_lenT H2.out
    subst hvi
    have HROW := Lib.hid hrow
    have c5 : W.cell? ⟨Bi, 0, none⟩ = some (.slice ri t.length ci) := h1.cell
    clear h1 h2 h3 h4 h5 hK ht htl hrow HX3 HIT HKA
    by_cases hd : t = []
    · have HC := Lib.hid (cmt_none S (M := M) (b := bs) (by rw [HT.out]; exact hd))
      have hl0 : t.length = 0 := by rw [hd]; rfl
      rw [hl0] at c5
      clear hd hl0
      gi_wp2_with fail
      refine ⟨by simp, .inl ⟨_, _, rfl, run_takeDeferred HKD.out, ?_⟩⟩
      refine ⟨_, results_tmp rfl _ _ _, by rw [← HER.out, HC.out.1]; rfl, ?_⟩
      have hbp : Below w.heap.size w (W.putObj D (.deferred none)) := HBW.out.trans (belowK_b (w := w) (Nat.le_refl _) W D _ _ HDD.out HKD.out rfl rfl)
      refine ⟨f, ?_, Turn.of_below hbp⟩
      rw [← HPO.out, HC.out.1, HC.out.2, if_pos rfl]
      exact ((RigR.isRes rb p0 p1 S).sep (MemX.isRes m rb M)).below HSEP.out hbp
    · have hlen0 : 0 < t.length := by cases t with | nil => exact absurd rfl hd | cons _ _ => simp
      have g8 : ((t.length : Int) == 0) = false := by simp; exact hd
      have HDN : Hid (M.dif bs ≠ []) := by show _ ≠ _; rw [HT.out]; exact hd
      have HTA := Lib.hid (HT1.out hd)
      have HTB := Lib.hid (HT2.out hd)
      obtain ⟨gi, rfl, hgl, hgr⟩ := HROW.out hlen0
      have hgN : w.heap.size ≤ gi := by
        obtain ⟨g', c', e', hN', _⟩ := own_row H2.out hlen0
        cases e'
        exact Nat.le_trans K3.out.size hN'
      have hBiW : Bi < W.heap.size := H1.out.lt
      have hDW : D < W.heap.size := (Array.getElem?_eq_some_iff.1 HKD.out).1
      have HGI : Hid (w.heap.size ≤ gi ∧ gi < W.heap.size ∧ w.heap.size ≤ Bi ∧ Bi < W.heap.size ∧ w.heap.size ≤ D ∧ D < W.heap.size) := ⟨hgN, hgl, Nat.le_of_eq hBi, hBiW, HDD.out, hDW⟩
      have HGR := Lib.hid hgr
      have HFL : Hid (∀ k, f k → k < w.heap.size) := fun k hk => (((RigR.isRes rb p0 p1 S).sep (MemX.isRes m rb M)).lt HSEP.out k hk)
      have htl100 : t.length ≤ 300 := by have := HTA.out.txn.most; have := (Geo.nats HTA.out.good).c2; omega
      have c5z : ∀ z : Ext W, z.1.cell? ⟨Bi, 0, none⟩ = some (.slice (some ⟨gi, 0, none⟩) t.length ci) := fun z => (z.2.cell (p := ⟨Bi, 0, none⟩) hBiW).trans c5
      have c14z : ∀ z : Ext W, z.1.cell? ⟨m, 14, none⟩ = some (.int .i64 M.room) := fun z => (HMW.out.row.below z.2).cell 14 _ rfl
      have HFU : Hid (M.full bs ↔ M.room < (t.length : Int) + 1) := by show _ ↔ _; rw [← HT.out]; exact Iff.rfl
      obtain ⟨tn, htn⟩ : ∃ n, t.length = n := ⟨_, rfl⟩
      have HTN := Lib.hid htn
      rw [htn] at c5 g8 c5z HFU htl100
      clear hd hlen0 hgl hgr hgN hBiW hDW HT1 HT2 HBX HLT HLB HBl hBi3 H2 HROW htn
      gi_step
      gi_step
      refine wpIn_wide.2 ?_
      go_wp2_with fail
      refine region_planN (fun x => ∃ y : Ext W, x = y.1) 6 (.takes [0, 2, 3, 4, 5] (.one 1 .leaf)) hmx (by kernel_rfl) ⟨⟨W.drew, (Below.refl _ W).drew⟩, rfl⟩ ?_
      repeat (rw [wpPlanN_takes_cons]; simp only [nth_zero, nth_succ]; go_big_quiet_step (fail); refine wpQuiet_nil ?_)
      rw [wpPlanN_takes_nil, wpPlanN_one]
      simp only [nth_zero, nth_succ]
      clear c5z c14z
      obtain ⟨V, hV⟩ : ∃ X, W.drew = X := ⟨_, rfl⟩
      have bV : Below W.heap.size W V := by rw [← hV]; exact (Below.refl _ W).drew
      try rw [hV]
      have hVs : V.heap.size = W.heap.size := by rw [← hV]; rfl
      clear hV
      go_wp2_with fail
      go_at_call 64
      refine (mvTakes (some ⟨gi, 0, none⟩) tn ci (by omega) V).mono ?_
      rintro e V' ⟨rfl, hv'⟩
      obtain rfl := hv'.symm
      clear hv'
      go_wp2_with fail
      refine planPost_mk ⟨⟨V, bV⟩, rfl⟩ ?_
      rw [wpPlanN_leaf]
      simp only [List.drop_succ_cons, List.drop_zero]
      have HV := Lib.hid bV
      have HWV : Hid (Below w.heap.size w V) := HBW.out.trans (bV.mono HBW.out.size)
      by_cases hf : M.room < (tn : Int) + 1
      · have gd : decide ((tn : Int) + 1 > M.room) = true := decide_eq_true hf
        have gd' : decide (M.room < (tn : Int) + 1) = true := gd
        have HCF := Lib.hid (cmt_full S HDN.out (HFU.out.2 hf))
        have HC0 := Lib.hid (HCP.out V HWV.out)
        obtain ⟨B2, hB2⟩ : ∃ B, S.bat [M.homW, M.supW] = B := ⟨_, rfl⟩
        have hB2e : B2.2 = 0 ∨ B2.2 = 14 := by rw [← hB2]; exact RS.bat_e _ _
        rw [hB2] at HCF HC0 HTB
        clear hf HCP hB2 bV
        go_wp2_with fail
        go_at_call 65
        refine HC0.out.mono ?_
        rintro e X ⟨rfl, fx, hPx, hTx⟩
        have hKx : ∀ k, w.heap.size ≤ k → k < W.heap.size → X.heap[k]? = W.heap[k]? := fun k h1 h2 => (hTx.out k (by omega) (fun h => by have := HFL.out k h; omega)).trans (HV.out.block k h2)
        have HKX := Lib.hid hKx
        have HTX : Hid (Turn f fx w X) := (Turn.of_below HWV.out).trans hTx
        have HVX : Hid (X.heap[Bv]? = w.heap[Bv]?) := (HTX.out.out Bv HVF.out.2.2.2.2 (fun h => by
          rw [HFF.out] at h
          rcases h with h | h | h | h
          · exact HVF.out.1 h
          · exact HVF.out.2.1 h
          · exact HVF.out.2.2.1 h
          · exact HVF.out.2.2.2.1 h))
        have HNX : Hid (∀ k, fx k → ¬ (w.heap.size ≤ k ∧ k < W.heap.size)) := fun k hk h => by
          rcases hTx.new k hk with h1 | h1
          · have := HFL.out k h1; omega
          · omega
        have HKDX : Hid (X.heap[D]? = some (.deferred (some []))) := (hKx D HGI.out.2.2.2.2.1 HGI.out.2.2.2.2.2).trans HKD.out
        clear hKx hTx HC0
        by_cases h0 : B2.2 = 0
        · rw [if_pos h0] at hPx
          rw [h0]
          have HCM : Hid (S.cmt M bs = B2.1.bat (M.ckpt.appW bs) ∧ M.next bs = M.ckpt.app bs) := by refine (?_ : _ ∧ _); rw [HCF.out.1, HCF.out.2, if_pos h0]; exact ⟨rfl, rfl⟩
          obtain ⟨f1x, f2x, hRx, ⟨Bbx, cbx, Bhx, chx, ax, qx, hMx, rfl⟩, hDx, hfx⟩ := hPx
          have HTLX := HTB
          have HDF : Hid (M.ckpt.dif bs = t) := HT.out
          obtain ⟨M1, hM1⟩ : ∃ M', M.ckpt = M' := ⟨_, rfl⟩
          have HMB : Hid (M1.b.length = n) := by show _ = _; rw [← hM1]; exact HN.out
          rw [hM1] at hMx HCM HTLX HDF
          obtain ⟨S1, hS1⟩ : ∃ S', B2.1 = S' := ⟨_, rfl⟩
          rw [hS1] at hRx HCM HTLX
          clear h0 hB2e HCF hM1 hS1
          have hN := Geo.nats HTLX.out.good
          have hgr : M1.g.r = (M1.g.C : Int) := hN.c.symm
          have hmlt := hMx.lt
          have hFlt : ∀ k, f1x k → k < X.heap.size := fun k hk => (RigR.isRes rb p0 p1 S1).lt hRx k hk
          have hfi : ∀ k, f1x k → fx k := fun k hk => by rw [hfx]; exact .inl hk
          have hfm : fx m := by rw [hfx]; exact .inr (.inl rfl)
          have hbi := HKX.out Bi HGI.out.2.2.1 HGI.out.2.2.2.1
          have cX5 : X.cell? ⟨Bi, 0, none⟩ = some (.slice (some ⟨gi, 0, none⟩) tn ci) := (World.cell?_of_block (a := ⟨Bi, 0, none⟩) hbi).trans c5
          have hgi := HKX.out gi HGI.out.1 HGI.out.2.1
          have grX : X.rangeAt gi 0 (imgR t).flatten := rangeAt_same HGR.out hgi
          have hgiX : gi < X.heap.size := by
            rw [Array.getElem?_eq_getElem HGI.out.2.1] at hgi
            exact (Array.getElem?_eq_some_iff.1 hgi).1
          have hBiX : Bi < X.heap.size := by
            rw [Array.getElem?_eq_getElem HGI.out.2.2.2.1] at hbi
            exact (Array.getElem?_eq_some_iff.1 hbi).1
          have hDX : D < X.heap.size := (Array.getElem?_eq_some_iff.1 HKDX.out).1
          have hnr : ¬ f1x gi ∧ ¬ f1x Bi ∧ ¬ f1x D := ⟨fun h => HNX.out _ (hfi _ h) ⟨HGI.out.1, HGI.out.2.1⟩, fun h => HNX.out _ (hfi _ h) ⟨HGI.out.2.2.1, HGI.out.2.2.2.1⟩, fun h => HNX.out _ (hfi _ h) ⟨HGI.out.2.2.2.2.1, HGI.out.2.2.2.2.2⟩⟩
          have hmBi : m ≠ Bi ∧ m ≠ D := ⟨fun e => HNX.out m hfm (by rw [e]; exact ⟨HGI.out.2.2.1, HGI.out.2.2.2.1⟩), fun e => HNX.out m hfm (by rw [e]; exact ⟨HGI.out.2.2.2.2.1, HGI.out.2.2.2.2.2⟩)⟩
          have LG : (loadVar 23 ⟨m, 4, none⟩).run Tryz.prog X = .ok (.agg M1.g.v) X := hMx.row.geoAt (g := M1.g) (pre := [.pointer (some ⟨rb, 0, none⟩), .slice (some ⟨Bbx, 0, none⟩) M1.b.length cbx, .slice (some ⟨Bhx, 0, none⟩) M1.home.length chx, .int .u32 M1.gen]) (post := [.int .i64 ax, .int .u32 qx, .int .i64 M1.sup, .int .i64 M1.at0, .int .u32 M1.seq, .int .i64 M1.room]) rfl
          obtain ⟨x1, ST1, r1, hb1'⟩ := new_geoM X M1.g
          obtain ⟨Bg, hBg⟩ : ∃ b, X.heap.size = b := ⟨_, rfl⟩
          rw [hBg] at ST1 r1
          have hM1' := hMx.below hb1'
          have d0 : ∀ z : KeepT m Bg Bi x1, z.1.cell? ⟨m, 0, none⟩ = some (.pointer (some ⟨rb, 0, none⟩)) := fun z => (World.cell?_of_block (a := ⟨m, 0, none⟩) z.2.1).trans (hM1'.row.cell 0 _ rfl)
          have d12 : ∀ z : KeepT m Bg Bi x1, z.1.cell? ⟨m, 12, none⟩ = some (.int .i64 M1.at0) := fun z => (World.cell?_of_block (a := ⟨m, 12, none⟩) z.2.1).trans (hM1'.row.cell 12 _ rfl)
          have d13 : ∀ z : KeepT m Bg Bi x1, z.1.cell? ⟨m, 13, none⟩ = some (.int .u32 M1.seq) := fun z => (World.cell?_of_block (a := ⟨m, 13, none⟩) z.2.1).trans (hM1'.row.cell 13 _ rfl)
          have dg : ∀ z : KeepT m Bg Bi x1, (loadVar 23 ⟨Bg, 0, none⟩).run Tryz.prog z.1 = .ok (.agg M1.g.v) z.1 := fun z => load_geo (z.2.2.1.trans r1)
          have dg4 : ∀ z : KeepT m Bg Bi x1, z.1.cell? ⟨Bg, 4, none⟩ = some (.int .i64 M1.g.r) := fun z => (World.cell?_of_block (a := ⟨Bg, 4, none⟩) z.2.2.1).trans (r1.cell 4 _ rfl)
          have cx15 : x1.cell? ⟨Bi, 0, none⟩ = some (.slice (some ⟨gi, 0, none⟩) tn ci) := (hb1'.cell (p := ⟨Bi, 0, none⟩) hBiX).trans cX5
          have di : ∀ z : KeepT m Bg Bi x1, z.1.cell? ⟨Bi, 0, none⟩ = some (.slice (some ⟨gi, 0, none⟩) tn ci) := fun z => (World.cell?_of_block (a := ⟨Bi, 0, none⟩) z.2.2.2).trans cx15
          have l1 : m < x1.heap.size ∧ Bg < x1.heap.size ∧ Bi < x1.heap.size := ⟨hM1'.lt.1, RowC.lt r1, Nat.lt_of_lt_of_le hBiX hb1'.size⟩
          have HL1 := Lib.hid l1
          have HGIN := Lib.hid (Geo.goodIn HTLX.out.good)
          have HGG := Lib.hid HTLX.out.good
          have HRX := Lib.hid hRx
          have HMX := Lib.hid hMx
          have HBX1 := Lib.hid hb1'
          have HGRX := Lib.hid grX
          have HNR := Lib.hid hnr
          have HDXX := Lib.hid hDx
          have HCI := Lib.hid cX5
          have HLL := Lib.hid (And.intro hgiX (And.intro hBiX (And.intro hDX hmBi)))
          have HFX := Lib.hid hfx
          have HFLX := Lib.hid hFlt
          have HMLT := Lib.hid hmlt
          have HBG := Lib.hid hBg
          have HGRE := Lib.hid hgr
          obtain ⟨gr, hgrn⟩ : ∃ x, M1.g.r = x := ⟨_, rfl⟩
          have HGRN := Lib.hid hgrn
          rw [hgrn] at dg4
          clear hN hgr hgrn hmlt hFlt hfi hfm hbi cX5 hgi grX hgiX hBiX hDX hnr hmBi hb1' hM1' cx15 l1 hRx hMx hDx hfx c5 r1
          go_wp2_with fail
          clear LG ST1 hBg
          obtain ⟨X2, hX2⟩ : ∃ X, x1.drew = X := ⟨_, rfl⟩
          have bX2 : Below x1.heap.size x1 X2 := by rw [← hX2]; exact (Below.refl _ x1).drew
          refine region_planN (fun x => ∃ y : KeepT m Bg Bi x1, x = y.1) 24 (.takes [0, 1, 2, 3, 4, 6, 7, 8, 9, 10, 11, 12, 13, 14, 15, 16, 17, 18] (.one 5 (.one 19 (.takes [20, 21, 23, 22] .leaf)))) hmx (by kernel_rfl) ⟨⟨x1.drew, rfl, rfl, rfl⟩, rfl⟩ ?_
          repeat (rw [wpPlanN_takes_cons]; simp only [nth_zero, nth_succ]; go_big_quiet_step (fail); refine wpQuiet_nil ?_)
          rw [wpPlanN_takes_nil, wpPlanN_one]
          simp only [nth_zero, nth_succ]
          clear d0 d12 d13 dg dg4 di
          try rw [hX2]
          clear hX2
          go_wp2_with fail
          go_at_call 50
          refine (gmRing M1.g HGIN.out X2).mono ?_
          rw [Geo.oR, if_pos HGG.out]
          rintro e X3 ⟨rfl, hb3'⟩
          have B13 : Hid (Below x1.heap.size x1 X3) := bX2.trans (hb3'.mono bX2.size)
          clear bX2 hb3'
          go_wp2_with fail
          refine planPost_mk ⟨⟨X3, B13.out.block m HL1.out.1, B13.out.block Bg HL1.out.2.1, B13.out.block Bi HL1.out.2.2⟩, rfl⟩ ?_
          rw [wpPlanN_one]
          simp only [nth_zero, nth_succ]
          have hBX3 : Below X.heap.size X X3 := HBX1.out.trans (B13.out.mono HBX1.out.size)
          have HBX3 := Lib.hid hBX3
          have HAP := Lib.hid (ringOk.append (HRX.out.beside hBX3) HTLX.out.fu HTLX.out.d.1 HTLX.out.d.2 HTLX.out.few (F := 2) (C := M1.g.C) (A := M1.at0) (by have := (Geo.nats HGG.out).c1; omega) (Geo.nats HGG.out).c2 HTLX.out.c HTLX.out.at0 HTLX.out.n0 (seq := M1.seq) ⟨HTLX.out.seq.1, by have := HTLX.out.seq.2; omega⟩ HTLX.out.txn (g := gi) (c := ci) (rangeAt_same HGRX.out (hBX3.block gi HLL.out.1)) (Nat.lt_of_lt_of_le HLL.out.1 hBX3.size) HNR.out.1)
          obtain ⟨RA, hRA⟩ : ∃ R, S1.app 2 M1.g.C M1.at0 M1.seq t = R := ⟨_, rfl⟩
          have HEA : Hid (RA.2 = 0 ∨ RA.2 = 14) := by rw [← hRA]; exact app_e _ _ _ _ _ _
          have HCR : Hid (S.cmt M bs = RA) := by
            have h := app_appW S1 M1 bs
            rw [HDF.out, hRA] at h
            show _ = _
            rw [HCM.out.1, h]
          rw [hRA, ← HGRE.out, HGRN.out, HTN.out] at HAP
          obtain ⟨na, hna⟩ : ∃ x : Int, (if RA.2 = 0 then (((M1.at0 + tn + 1) % M1.g.C : Nat) : Int) else 0) = x := ⟨_, rfl⟩
          rw [hna] at HAP
          have HNA := Lib.hid hna
          clear hBX3 hRA hna
          go_wp2_with fail
          go_at_call 66
          refine HAP.out.mono ?_
          rintro e X4 ⟨rfl, f4, hR4, hT4⟩
          have hk4 : ∀ k, k < X.heap.size → ¬ f1x k → X4.heap[k]? = X.heap[k]? := fun k hk hn => (hT4.out k (Nat.lt_of_lt_of_le hk HBX3.out.size) hn).trans (HBX3.out.block k hk)
          have hf4n : ∀ k, f4 k → f1x k ∨ X.heap.size ≤ k := fun k hk => (hT4.new k hk).imp id (fun h => Nat.le_trans HBX3.out.size h)
          have hm4 : X4.heap[m]? = x1.heap[m]? := (hT4.out m (Nat.lt_of_lt_of_le HMLT.out.1 HBX3.out.size) (fun h => HDXX.out m h (.inl rfl))).trans (B13.out.block m HL1.out.1)
          have hg4 : X4.heap[Bg]? = x1.heap[Bg]? := (hT4.out Bg (Nat.lt_of_lt_of_le HL1.out.2.1 B13.out.size) (fun h => by have := HFLX.out _ h; have := HBG.out; omega)).trans (B13.out.block Bg HL1.out.2.1)
          have hi4 : X4.heap[Bi]? = x1.heap[Bi]? := (hT4.out Bi (Nat.lt_of_lt_of_le HL1.out.2.2 B13.out.size) HNR.out.2.1).trans (B13.out.block Bi HL1.out.2.2)
          have HT4 : Hid (Turn fx (fun k => f4 k ∨ k = m ∨ k = Bbx ∨ k = Bhx) X X4) := by
            show Turn _ _ _ _
            rw [HFX.out]
            exact (Turn.of_below HBX3.out).trans (hT4.frame _)
          have HK4 := Lib.hid hk4
          have HR4 := Lib.hid hR4
          have HF4 := Lib.hid hf4n
          have HS4 : Hid (X.heap.size ≤ X4.heap.size) := Nat.le_trans HBX3.out.size hT4.size
          clear hT4 hk4 hR4 hf4n HAP
          go_wp2_with fail
          refine planPost_mk ⟨⟨X4, hm4, hg4, hi4⟩, rfl⟩ ?_
          clear hm4 hg4 hi4
          repeat (rw [wpPlanN_takes_cons]; simp only [nth_zero, nth_succ]; go_big_quiet_step (fail); refine wpQuiet_nil ?_)
          rw [wpPlanN_takes_nil, wpPlanN_leaf]
          simp only [List.drop_succ_cons, List.drop_zero]
          by_cases hz : RA.2 = 0
          · rw [hz]
            have HZ := Lib.hid hz
            clear hz
            have hna : na = (((M1.at0 + tn + 1) % M1.g.C : Nat) : Int) := by rw [← HNA.out, if_pos HZ.out]
            have HNA2 := Lib.hid hna
            have hM4 : MemAt m rb Bbx cbx Bhx chx ax qx M1 X4 := HMX.out.keep (HK4.out m HMLT.out.1 (fun h => HDXX.out m h (.inl rfl))) (HK4.out Bbx HMLT.out.2.1 (fun h => HDXX.out Bbx h (.inr (.inl rfl)))) (HK4.out Bhx HMLT.out.2.2 (fun h => HDXX.out Bhx h (.inr (.inr rfl))))
            have q13 : X4.cell? ⟨m, 13, none⟩ = some (.int .u32 M1.seq) := hM4.row.cell 13 _ rfl
            have hq0 := HTLX.out.seq.1
            have hq1 := HTLX.out.seq.2
            have q12 : X4.cell? ⟨m, 12, none⟩ = some (.int .i64 M1.at0) := hM4.row.cell 12 _ rfl
            have z12 := hM4.row.frozen 12
            obtain ⟨y0, hy0⟩ : ∃ y, X4.setCell ⟨m, 12, none⟩ (.int .i64 na) = y := ⟨_, rfl⟩
            have rr0 := hM4.row.set 12 (.int .i64 na)
            rw [hy0] at rr0
            have q13' : y0.cell? ⟨m, 13, none⟩ = some (.int .u32 M1.seq) := rr0.cell 13 _ rfl
            have z13 := rr0.frozen 13
            obtain ⟨y1, hy1⟩ : ∃ y, y0.setCell ⟨m, 13, none⟩ (.int .u32 (M1.seq + 1)) = y := ⟨_, rfl⟩
            have rr1 := rr0.set 13 (.int .u32 (M1.seq + 1))
            rw [hy1] at rr1
            have hky1 : ∀ k, k < X4.heap.size → k ≠ m → y1.heap[k]? = X4.heap[k]? := fun k hk hn => by rw [← hy1, ← hy0]; exact (Below.heap_setCell _ _ _ k hn).trans (Below.heap_setCell _ _ _ k hn)
            have hsy1 : X4.heap.size ≤ y1.heap.size := by rw [← hy1, ← hy0, size_setCell, size_setCell]; exact Nat.le_refl _
            have HTS : Hid (Turn (fun k => f4 k ∨ k = m ∨ k = Bbx ∨ k = Bhx) (fun k => f4 k ∨ k = m ∨ k = Bbx ∨ k = Bhx) X4 y1) := by
              show Turn _ _ _ _
              rw [← hy1, ← hy0]
              exact (turn_setCell _ m 12 _ (.inr (.inl rfl))).trans (turn_setCell _ m 13 _ (.inr (.inl rfl)))
            have HM4 := Lib.hid hM4
            have HY1 := Lib.hid hky1
            have HSY1 := Lib.hid hsy1
            have HRR1 := Lib.hid rr1
            clear hM4 hky1 hsy1 hna rr0 rr1
            go_wp2_with fail
            clear q12 z12 q13 q13' z13 hy0 hy1
            have hnB : ¬ f1x Bv := fun h => by
              have h1 : fx Bv := by rw [HFX.out]; exact .inl h
              rcases HTX.out.new Bv h1 with h2 | h2
              · rw [HFF.out] at h2
                rcases h2 with h2 | h2 | h2 | h2
                · exact HVF.out.1 h2
                · exact HVF.out.2.1 h2
                · exact HVF.out.2.2.1 h2
                · exact HVF.out.2.2.2.1 h2
              · have := HVF.out.2.2.2.2; omega
            have hBvX : Bv < X.heap.size := Nat.lt_of_lt_of_le HVF.out.2.2.2.2 HTX.out.size
            have hv1 : y1.heap[Bv]? = w.heap[Bv]? := (HY1.out Bv (Nat.lt_of_lt_of_le hBvX HS4.out) HVF.out.2.1).trans ((HK4.out Bv hBvX hnB).trans HVX.out)
            have hi1 : y1.heap[Bi]? = X.heap[Bi]? := (HY1.out Bi (Nat.lt_of_lt_of_le HLL.out.2.1 HS4.out) (fun e => HLL.out.2.2.2.1 e.symm)).trans (HK4.out Bi HLL.out.2.1 HNR.out.2.1)
            have hd1 : y1.heap[D]? = some (.deferred (some [])) := (HY1.out D (Nat.lt_of_lt_of_le HLL.out.2.2.1 HS4.out) (fun e => HLL.out.2.2.2.2 e.symm)).trans ((HK4.out D HLL.out.2.2.1 HNR.out.2.2).trans HKDX.out)
            have hbi1 : Bi < y1.heap.size := Nat.lt_of_lt_of_le HLL.out.2.1 (Nat.le_trans HS4.out HSY1.out)
            have q14z : ∀ z : Ext y1, z.1.cell? ⟨m, 14, none⟩ = some (.int .i64 M1.room) := fun z => (HRR1.out.below z.2).cell 14 _ rfl
            have qiz : ∀ z : Ext y1, z.1.cell? ⟨Bi, 0, none⟩ = some (.slice (some ⟨gi, 0, none⟩) tn ci) := fun z => (World.cell?_of_block (a := ⟨Bi, 0, none⟩) ((z.2.block Bi hbi1).trans hi1)).trans HCI.out
            have hrm1 := HTLX.out.room.1
            have hrm2 := HTLX.out.room.2
            refine region_planN (fun x => ∃ y : Ext y1, x = y.1) 9 (.takes [0, 1, 2, 3, 4] (.one 5 (.takes [6, 7, 8] .leaf))) hmx (by kernel_rfl) ⟨⟨y1.drew, (Below.refl _ y1).drew⟩, rfl⟩ ?_
            repeat (rw [wpPlanN_takes_cons]; simp only [nth_zero, nth_succ]; go_big_quiet_step (fail); refine wpQuiet_nil ?_)
            rw [wpPlanN_takes_nil, wpPlanN_one]
            simp only [nth_zero, nth_succ]
            clear q14z qiz
            obtain ⟨V2, hV2⟩ : ∃ X, y1.drew = X := ⟨_, rfl⟩
            have bV2 : Below y1.heap.size y1 V2 := by rw [← hV2]; exact (Below.refl _ y1).drew
            try rw [hV2]
            have hV2s : V2.heap.size = y1.heap.size := by rw [← hV2]; rfl
            clear hV2
            go_wp2_with fail
            go_at_call 64
            refine (mvTakes (some ⟨gi, 0, none⟩) tn ci (by omega) V2).mono ?_
            rintro e V' ⟨rfl, hv'⟩
            obtain rfl := hv'.symm
            clear hv'
            go_wp2_with fail
            refine planPost_mk ⟨⟨V2, bV2⟩, rfl⟩ ?_
            repeat (rw [wpPlanN_takes_cons]; simp only [nth_zero, nth_succ]; go_big_quiet_step (fail); refine wpQuiet_nil ?_)
            rw [wpPlanN_takes_nil, wpPlanN_leaf]
            simp only [List.drop_succ_cons, List.drop_zero]
            have rr2 := HRR1.out.below bV2
            have c14 : V2.cell? ⟨m, 14, none⟩ = some (.int .i64 M1.room) := rr2.cell 14 _ rfl
            have f14 := rr2.frozen 14
            obtain ⟨y2, hy2⟩ : ∃ y, V2.setCell ⟨m, 14, none⟩ (.int .i64 (M1.room - ((tn : Int) + 1))) = y := ⟨_, rfl⟩
            have rr3 := rr2.set 14 (.int .i64 (M1.room - ((tn : Int) + 1)))
            rw [hy2] at rr3
            have h2k : ∀ k, k ≠ m → y2.heap[k]? = V2.heap[k]? := fun k hk => by rw [← hy2]; exact Below.heap_setCell _ _ _ k hk
            have h2s : y2.heap.size = V2.heap.size := by rw [← hy2, size_setCell]
            have hv2 : y2.heap[Bv]? = w.heap[Bv]? := (h2k Bv HVF.out.2.1).trans ((bV2.block Bv (Nat.lt_of_lt_of_le hBvX (Nat.le_trans HS4.out HSY1.out))).trans hv1)
            have HSV : Hid (Sl .u8 y2 (.slice (some ⟨Bv, ov, none⟩) n cv) bs) := HVS.out.same (by rw [h2s, hV2s]; exact Nat.le_trans HTX.out.size (Nat.le_trans HS4.out HSY1.out)) (fun b e => by cases e; exact hv2)
            have HD2 : Hid (y2.heap[D]? = some (.deferred (some []))) := (h2k D (fun e => HLL.out.2.2.2.2 e.symm)).trans ((bV2.block D (Array.getElem?_eq_some_iff.1 hd1).1).trans hd1)
            have HY2 : Hid (∀ k, k < X4.heap.size → k ≠ m → y2.heap[k]? = X4.heap[k]?) := fun k hk hn => (h2k k hn).trans ((bV2.block k (Nat.lt_of_lt_of_le hk HSY1.out)).trans (HY1.out k hk hn))
            have HS2 : Hid (X4.heap.size ≤ y2.heap.size) := by show _ ≤ _; rw [h2s, hV2s]; exact HSY1.out
            have HT2 : Hid (Turn (fun k => f4 k ∨ k = m ∨ k = Bbx ∨ k = Bhx) (fun k => f4 k ∨ k = m ∨ k = Bbx ∨ k = Bhx) X4 y2) := by
              show Turn _ _ _ _
              rw [← hy2]
              exact HTS.out.trans ((Turn.of_below bV2).trans (turn_setCell _ m 14 _ (.inr (.inl rfl))))
            have HRR3 := Lib.hid rr3
            have hbn : bs.length = n := by have h1 := HLN.out; have h2 := HN.out; omega
            have HBN := Lib.hid hbn
            have hn0 : 0 < n := by have := HM.out.b0; have := HN.out; omega
            have hnM : n ≤ 714 := by have := HOK.out.len; have := (Geo.nats HOK.out.good).b2; have := HN.out; omega
            have HCL := Lib.hid (cloneBytes y2 HSV.out (by intro e; rw [e] at hbn; simp at hbn; omega) (by omega))
            clear hnB hBvX hv1 hi1 hd1 hbi1 rr2 rr3 h2k h2s hv2 hbn hV2s bV2
            go_wp2_with fail
            clear hy2 c14 f14
            go_at_call 55
            refine HCL.out.mono ?_
            rintro e y3 ⟨v', rfl, hO, hB⟩
            obtain ⟨Bc, cc, rfl, hBcN, hcc, hBcl, hrg⟩ := own_row hO (by rw [HBN.out]; exact hn0)
            have hcur : cc ≤ maxLen ∧ ∃ cur, y3.heap[Bc]? = some (.cells cur 5 (0, 0)) := by
              rcases hO.2 with ⟨h', _⟩ | ⟨g', c', cur, e, h1, h2, h3, h4, _⟩
              · cases h'
              · cases e; exact ⟨h4, cur, h2⟩
            have rr4 := HRR3.out.below hB
            have c1m : y3.cell? ⟨m, 1, none⟩ = some (.slice (some ⟨Bbx, 0, none⟩) M1.b.length cbx) := rr4.cell 1 _ rfl
            have f1m := rr4.frozen 1
            obtain ⟨y4, hy4⟩ : ∃ y, y3.setCell ⟨m, 1, none⟩ (.slice (some ⟨Bc, 0, none⟩) bs.length cc) = y := ⟨_, rfl⟩
            have rr5 := rr4.set 1 (.slice (some ⟨Bc, 0, none⟩) bs.length cc)
            rw [hy4] at rr5
            have h4k : ∀ k, k ≠ m → y4.heap[k]? = y3.heap[k]? := fun k hk => by rw [← hy4]; exact Below.heap_setCell _ _ _ k hk
            have HTY : Hid (Turn (fun k => f4 k ∨ k = m ∨ k = Bbx ∨ k = Bhx) (fun k => f4 k ∨ k = m ∨ k = Bbx ∨ k = Bhx) X4 y4) := by
              show Turn _ _ _ _
              rw [← hy4]
              exact HT2.out.trans ((Turn.of_below hB).trans (turn_setCell _ m 1 _ (.inr (.inl rfl))))
            have hDy : D < y2.heap.size := (Array.getElem?_eq_some_iff.1 HD2.out).1
            have HD4 : Hid (y4.heap[D]? = some (.deferred (some []))) := (h4k D (fun e => HLL.out.2.2.2.2 e.symm)).trans ((hB.block D hDy).trans HD2.out)
            have HY4 : Hid (∀ k, k < X4.heap.size → k ≠ m → y4.heap[k]? = X4.heap[k]?) := fun k hk hn => (h4k k hn).trans ((hB.block k (Nat.lt_of_lt_of_le hk HS2.out)).trans (HY2.out k hk hn))
            have HBC : Hid (y2.heap.size ≤ Bc) := hBcN
            have hBcm : Bc ≠ m := fun e => by have h1 := HMLT.out.1; have h2 := HS4.out; have h3 := HS2.out; omega
            have HRC : Hid (bs.length ≤ cc ∧ cc ≤ maxLen ∧ (∃ cur t, y4.heap[Bc]? = some (.cells cur t (0, 0))) ∧ y4.rangeAt Bc 0 (u8s bs)) := ⟨hcc, hcur.1, by obtain ⟨cur, h⟩ := hcur.2; exact ⟨cur, _, (h4k Bc hBcm).trans h⟩, rangeAt_same hrg (h4k Bc hBcm)⟩
            have HR5 := Lib.hid rr5
            clear hO hBcN hcc hBcl hrg hcur rr4 rr5 h4k hDy hBcm hB
            go_wp2_with fail
            clear hy4 c1m f1m
            refine ⟨by simp, .inl ⟨_, _, rfl, run_takeDeferred HD4.out, ?_⟩⟩
            refine ⟨_, results_tmp rfl _ _ _, by rw [← HER.out, HCR.out, HZ.out]; rfl, ?_⟩
            have hg := grownBy_putObj' y4 D (.deferred none)
            obtain ⟨yF, hyF⟩ : ∃ y, y4.putObj D (.deferred none) = y := ⟨_, rfl⟩
            rw [hyF] at hg ⊢
            have hsz : y4.heap.size ≤ yF.heap.size := hg.size
            have hkF : ∀ k, k < y4.heap.size → k ≠ D → yF.heap[k]? = y4.heap[k]? := fun k h1 h2 => hg.block k h1 (fun e => h2 (by cases e; rfl))
            have hX4 : X.heap.size ≤ X4.heap.size := HS4.out
            have hY4 : X4.heap.size ≤ y4.heap.size := HTY.out.size
            have hDl : D < X.heap.size := HLL.out.2.2.1
            have hmD : m ≠ D := HLL.out.2.2.2.2
            have hml := HMLT.out
            have hDn : ¬ fx D := fun h => HNX.out D h ⟨HGI.out.2.2.2.2.1, HGI.out.2.2.2.2.2⟩
            have hDb : D ≠ Bbx ∧ D ≠ Bhx := by
              rw [HFX.out] at hDn
              exact ⟨fun e => hDn (.inr (.inr (.inl e))), fun e => hDn (.inr (.inr (.inr e)))⟩
            have hf4m : ∀ k, f4 k → k ≠ m ∧ k ≠ D ∧ k ≠ Bc ∧ k ≠ Bhx := fun k hk => by
              have hl := (RigR.isRes rb p0 p1 RA.1).lt HR4.out k hk
              have hc : y2.heap.size ≤ Bc := HBC.out
              have h2 : X4.heap.size ≤ y2.heap.size := HS2.out
              rcases HF4.out k hk with h | h
              · have hd := HDXX.out k h
                exact ⟨fun e => hd (.inl e), fun e => hDn (by rw [HFX.out]; exact .inl (by rw [← e]; exact h)), by omega, fun e => hd (.inr (.inr e))⟩
              · exact ⟨by omega, by omega, by omega, by omega⟩
            have hBcl : Bc < y4.heap.size := by
              obtain ⟨cur, t, h⟩ := HRC.out.2.2.1
              exact (Array.getElem?_eq_some_iff.1 h).1
            have hcB : X4.heap.size ≤ Bc := Nat.le_trans HS2.out HBC.out
            have hBcF : yF.heap[Bc]? = y4.heap[Bc]? := hkF Bc hBcl (by omega)
            have hBhF : yF.heap[Bhx]? = X.heap[Bhx]? := (hkF Bhx (by omega) (fun e => hDb.2 e.symm)).trans ((HY4.out Bhx (by omega) (fun e => HMX.out.mh e.symm)).trans (HK4.out Bhx hml.2.2 (fun h => HDXX.out Bhx h (.inr (.inr rfl)))))
            have hmF : yF.heap[m]? = y4.heap[m]? := hkF m (by omega) hmD
            have e1 : (((M1.app bs).at0 : Nat) : Int) = na := by
              show (((M1.at0 + (M1.dif bs).length + 1) % M1.g.C : Nat) : Int) = na
              rw [HDF.out, HTN.out, HNA2.out]
            have e2 : (M1.app bs).room = M1.room - ((tn : Int) + 1) := by
              show M1.g.r - ((M1.used + (M1.dif bs).length + 1 : Nat) : Int) = M1.g.r - (M1.used : Int) - _
              rw [HDF.out, HTN.out]
              omega
            have hMF : MemAt m rb Bc cc Bhx chx ax qx (M1.app bs) yF := by
              refine ⟨?_, by omega, HMX.out.mh, by omega, by show 0 < bs.length; rw [HBN.out]; exact hn0, HMX.out.h0, ⟨HRC.out.1, HRC.out.2.1⟩, ?_, rangeAt_same HRC.out.2.2.2 hBcF, ?_, rangeAt_same HMX.out.hat hBhF⟩
              · rw [e1, e2]
                show yF.heap[m]? = _
                rw [hmF]
                exact HR5.out
              · obtain ⟨cur, t, h⟩ := HRC.out.2.2.1
                exact ⟨cur, t, hBcF.trans h⟩
              · obtain ⟨cur, t, h⟩ := HMX.out.ch'
                exact ⟨cur, t, hBhF.trans h⟩
            have hRF : RigR rb p0 p1 RA.1 yF f4 := (RigR.isRes rb p0 p1 RA.1).out HR4.out fun k hk => by
              have hl := (RigR.isRes rb p0 p1 RA.1).lt HR4.out k hk
              exact (hkF k (by omega) (hf4m k hk).2.1).trans (HY4.out k hl (hf4m k hk).1)
            have hTF : Turn f (fun k => f4 k ∨ k = m ∨ k = Bc ∨ k = Bhx) w yF := by
              refine ((HTX.out.trans (HT4.out.trans HTY.out)).kept hg (fun r e => by cases e; exact HGI.out.2.2.2.2.1)).less fun k hk => ?_
              have h1 := HTX.out.size
              rcases hk with h | h | h | h
              · exact .inl (.inl h)
              · exact .inl (.inr (.inl h))
              · right; omega
              · exact .inl (.inr (.inr (.inr h)))
            refine ⟨_, ?_, hTF⟩
            rw [← HPO.out, HCR.out, if_pos HZ.out, HCM.out.2]
            exact ⟨f4, _, hRF, ⟨Bc, cc, Bhx, chx, ax, qx, hMF, rfl⟩, fun k hk h => by
              have := hf4m k hk
              rcases h with h | h | h
              · exact this.1 h
              · exact this.2.2.1 h
              · exact this.2.2.2 h, rfl⟩
          · have h14 : RA.2 = 14 := HEA.out.resolve_left hz
            rw [h14]
            have HE14 := Lib.hid h14
            clear hz h14
            go_wp2_with fail
            refine ⟨by simp, .inl ⟨_, _, rfl, run_takeDeferred ((HK4.out D HLL.out.2.2.1 HNR.out.2.2).trans HKDX.out), ?_⟩⟩
            refine ⟨_, results_tmp rfl _ _ _, by rw [← HER.out, HCR.out, HE14.out]; rfl, ?_⟩
            have hg := grownBy_putObj' X4 D (.deferred none)
            have hD4 : ¬ f4 D := fun h => by
              rcases HF4.out D h with h | h
              · exact HNR.out.2.2 h
              · have := HLL.out.2.2.1; omega
            refine ⟨f4, ?_, ((HTX.out.trans HT4.out).less (fun k hk => .inl (.inl hk))).kept hg (fun r e => by cases e; exact HGI.out.2.2.2.2.1)⟩
            rw [← HPO.out, HCR.out, if_neg (by rw [HE14.out]; decide)]
            exact (RigR.isRes rb p0 p1 RA.1).out HR4.out fun k hk => hg.block k ((RigR.isRes rb p0 p1 RA.1).lt HR4.out k hk) (fun e => by cases e; exact hD4 hk)
        · have h14 : B2.2 = 14 := hB2e.resolve_left h0
          rw [if_neg h0] at hPx
          rw [h14]
          have HCM : Hid (S.cmt M bs = B2) := by show _ = _; rw [HCF.out.1, if_neg h0]
          have HPX := Lib.hid hPx
          have HE14 : Hid (B2.2 = 14) := h14
          clear h0 hB2e h14 hPx
          go_wp2_with fail
          refine ⟨by simp, .inl ⟨_, _, rfl, run_takeDeferred HKDX.out, ?_⟩⟩
          refine ⟨_, results_tmp rfl _ _ _, by rw [← HER.out, HCM.out, HE14.out]; rfl, ?_⟩
          have hg := grownBy_putObj' X D (.deferred none)
          have hnx : ∀ k, fx k → (X.putObj D (.deferred none)).heap[k]? = X.heap[k]? := fun k hk => hg.block k ((RigR.isRes rb p0 p1 B2.1).lt HPX.out k hk) (fun e => HNX.out k hk (by cases e; exact ⟨HGI.out.2.2.2.2.1, HGI.out.2.2.2.2.2⟩))
          refine ⟨fx, ?_, HTX.out.kept hg (fun r e => by cases e; exact HGI.out.2.2.2.2.1)⟩
          rw [← HPO.out, HCM.out, if_neg (by rw [HE14.out]; decide)]
          exact (RigR.isRes rb p0 p1 B2.1).out HPX.out hnx
      · have HCM : Hid (S.cmt M bs = S.bat (M.appW bs) ∧ M.next bs = M.app bs) := cmt_room S HDN.out (fun h => hf (HFU.out.1 h))
        have gd : decide ((tn : Int) + 1 > M.room) = false := decide_eq_false hf
        have gd' : decide (M.room < (tn : Int) + 1) = false := gd
        obtain ⟨X, hVX⟩ : ∃ X, V = X := ⟨_, rfl⟩
        rw [hVX] at bV HV HWV
        rw [hVX]
        obtain ⟨fx, hfxf⟩ : ∃ g, f = g := ⟨_, rfl⟩
        have hRx : RigR rb p0 p1 S X f1 := HR.out.beside HWV.out
        have hMx := HMW.out.below bV
        have HTX : Hid (Turn f fx w X) := by show Turn _ _ _ _; rw [← hfxf]; exact Turn.of_below HWV.out
        have HKX : Hid (∀ k, w.heap.size ≤ k → k < W.heap.size → X.heap[k]? = W.heap[k]?) := fun k _ h2 => bV.block k h2
        have HNX : Hid (∀ k, fx k → ¬ (w.heap.size ≤ k ∧ k < W.heap.size)) := fun k hk h => by rw [← hfxf] at hk; have := HFL.out k hk; omega
        have HKDX : Hid (X.heap[D]? = some (.deferred (some []))) := (bV.block D HGI.out.2.2.2.2.2).trans HKD.out
        have HVX : Hid (X.heap[Bv]? = w.heap[Bv]?) := HWV.out.block Bv HVF.out.2.2.2.2
        have hDx : ∀ k, f1 k → ¬ (k = m ∨ k = Bb ∨ k = Bh) := fun k hk h => by
          have := HD.out k hk
          rcases h with h | h | h
          · exact this.1 h
          · exact this.2.1 h
          · exact this.2.2 h
        have hfx : fx = fun k => f1 k ∨ k = m ∨ k = Bb ∨ k = Bh := hfxf.symm.trans HFF.out
        have HTLX := HTA
        have HDF : Hid (M.dif bs = t) := HT.out
        obtain ⟨M1, hM1⟩ : ∃ M', M = M' := ⟨_, rfl⟩
        rw [hM1] at hMx HCM HTLX HDF
        obtain ⟨S1, hS1⟩ : ∃ S', S = S' := ⟨_, rfl⟩
        have HCM : Hid (S.cmt M bs = S1.bat (M1.appW bs) ∧ M.next bs = M1.app bs) := by rw [← hS1, ← hM1]; rw [← hM1] at HCM; exact HCM
        rw [hS1] at hRx HTLX
        have HMB : Hid (M1.b.length = n) := by show _ = _; rw [← hM1]; exact HN.out
        obtain ⟨f1x, hf1x⟩ : ∃ g, f1 = g := ⟨_, rfl⟩
        rw [hf1x] at hRx hDx hfx
        obtain ⟨Bbx, hb1⟩ : ∃ b, Bb = b := ⟨_, rfl⟩
        obtain ⟨Bhx, hb2⟩ : ∃ b, Bh = b := ⟨_, rfl⟩
        obtain ⟨cbx, hb3⟩ : ∃ b, cb = b := ⟨_, rfl⟩
        obtain ⟨chx, hb4⟩ : ∃ b, ch = b := ⟨_, rfl⟩
        obtain ⟨ax, hb5⟩ : ∃ b, a = b := ⟨_, rfl⟩
        obtain ⟨qx, hb6⟩ : ∃ b, q = b := ⟨_, rfl⟩
        rw [hb1, hb2, hb3, hb4, hb5, hb6] at hMx
        rw [hb1, hb2] at hDx hfx
        clear hVX hfxf hM1 hS1 hf1x hb1 hb2 hb3 hb4 hb5 hb6 hf bV HCP

        have hN := Geo.nats HTLX.out.good
        have hgr : M1.g.r = (M1.g.C : Int) := hN.c.symm
        have hmlt := hMx.lt
        have hFlt : ∀ k, f1x k → k < X.heap.size := fun k hk => (RigR.isRes rb p0 p1 S1).lt hRx k hk
        have hfi : ∀ k, f1x k → fx k := fun k hk => by rw [hfx]; exact .inl hk
        have hfm : fx m := by rw [hfx]; exact .inr (.inl rfl)
        have hbi := HKX.out Bi HGI.out.2.2.1 HGI.out.2.2.2.1
        have cX5 : X.cell? ⟨Bi, 0, none⟩ = some (.slice (some ⟨gi, 0, none⟩) tn ci) := (World.cell?_of_block (a := ⟨Bi, 0, none⟩) hbi).trans c5
        have hgi := HKX.out gi HGI.out.1 HGI.out.2.1
        have grX : X.rangeAt gi 0 (imgR t).flatten := rangeAt_same HGR.out hgi
        have hgiX : gi < X.heap.size := by
          rw [Array.getElem?_eq_getElem HGI.out.2.1] at hgi
          exact (Array.getElem?_eq_some_iff.1 hgi).1
        have hBiX : Bi < X.heap.size := by
          rw [Array.getElem?_eq_getElem HGI.out.2.2.2.1] at hbi
          exact (Array.getElem?_eq_some_iff.1 hbi).1
        have hDX : D < X.heap.size := (Array.getElem?_eq_some_iff.1 HKDX.out).1
        have hnr : ¬ f1x gi ∧ ¬ f1x Bi ∧ ¬ f1x D := ⟨fun h => HNX.out _ (hfi _ h) ⟨HGI.out.1, HGI.out.2.1⟩, fun h => HNX.out _ (hfi _ h) ⟨HGI.out.2.2.1, HGI.out.2.2.2.1⟩, fun h => HNX.out _ (hfi _ h) ⟨HGI.out.2.2.2.2.1, HGI.out.2.2.2.2.2⟩⟩
        have hmBi : m ≠ Bi ∧ m ≠ D := ⟨fun e => HNX.out m hfm (by rw [e]; exact ⟨HGI.out.2.2.1, HGI.out.2.2.2.1⟩), fun e => HNX.out m hfm (by rw [e]; exact ⟨HGI.out.2.2.2.2.1, HGI.out.2.2.2.2.2⟩)⟩
        have LG : (loadVar 23 ⟨m, 4, none⟩).run Tryz.prog X = .ok (.agg M1.g.v) X := hMx.row.geoAt (g := M1.g) (pre := [.pointer (some ⟨rb, 0, none⟩), .slice (some ⟨Bbx, 0, none⟩) M1.b.length cbx, .slice (some ⟨Bhx, 0, none⟩) M1.home.length chx, .int .u32 M1.gen]) (post := [.int .i64 ax, .int .u32 qx, .int .i64 M1.sup, .int .i64 M1.at0, .int .u32 M1.seq, .int .i64 M1.room]) rfl
        obtain ⟨x1, ST1, r1, hb1'⟩ := new_geoM X M1.g
        obtain ⟨Bg, hBg⟩ : ∃ b, X.heap.size = b := ⟨_, rfl⟩
        rw [hBg] at ST1 r1
        have hM1' := hMx.below hb1'
        have d0 : ∀ z : KeepT m Bg Bi x1, z.1.cell? ⟨m, 0, none⟩ = some (.pointer (some ⟨rb, 0, none⟩)) := fun z => (World.cell?_of_block (a := ⟨m, 0, none⟩) z.2.1).trans (hM1'.row.cell 0 _ rfl)
        have d12 : ∀ z : KeepT m Bg Bi x1, z.1.cell? ⟨m, 12, none⟩ = some (.int .i64 M1.at0) := fun z => (World.cell?_of_block (a := ⟨m, 12, none⟩) z.2.1).trans (hM1'.row.cell 12 _ rfl)
        have d13 : ∀ z : KeepT m Bg Bi x1, z.1.cell? ⟨m, 13, none⟩ = some (.int .u32 M1.seq) := fun z => (World.cell?_of_block (a := ⟨m, 13, none⟩) z.2.1).trans (hM1'.row.cell 13 _ rfl)
        have dg : ∀ z : KeepT m Bg Bi x1, (loadVar 23 ⟨Bg, 0, none⟩).run Tryz.prog z.1 = .ok (.agg M1.g.v) z.1 := fun z => load_geo (z.2.2.1.trans r1)
        have dg4 : ∀ z : KeepT m Bg Bi x1, z.1.cell? ⟨Bg, 4, none⟩ = some (.int .i64 M1.g.r) := fun z => (World.cell?_of_block (a := ⟨Bg, 4, none⟩) z.2.2.1).trans (r1.cell 4 _ rfl)
        have cx15 : x1.cell? ⟨Bi, 0, none⟩ = some (.slice (some ⟨gi, 0, none⟩) tn ci) := (hb1'.cell (p := ⟨Bi, 0, none⟩) hBiX).trans cX5
        have di : ∀ z : KeepT m Bg Bi x1, z.1.cell? ⟨Bi, 0, none⟩ = some (.slice (some ⟨gi, 0, none⟩) tn ci) := fun z => (World.cell?_of_block (a := ⟨Bi, 0, none⟩) z.2.2.2).trans cx15
        have l1 : m < x1.heap.size ∧ Bg < x1.heap.size ∧ Bi < x1.heap.size := ⟨hM1'.lt.1, RowC.lt r1, Nat.lt_of_lt_of_le hBiX hb1'.size⟩
        have HL1 := Lib.hid l1
        have HGIN := Lib.hid (Geo.goodIn HTLX.out.good)
        have HGG := Lib.hid HTLX.out.good
        have HRX := Lib.hid hRx
        have HMX := Lib.hid hMx
        have HBX1 := Lib.hid hb1'
        have HGRX := Lib.hid grX
        have HNR := Lib.hid hnr
        have HDXX := Lib.hid hDx
        have HCI := Lib.hid cX5
        have HLL := Lib.hid (And.intro hgiX (And.intro hBiX (And.intro hDX hmBi)))
        have HFX := Lib.hid hfx
        have HFLX := Lib.hid hFlt
        have HMLT := Lib.hid hmlt
        have HBG := Lib.hid hBg
        have HGRE := Lib.hid hgr
        obtain ⟨gr, hgrn⟩ : ∃ x, M1.g.r = x := ⟨_, rfl⟩
        have HGRN := Lib.hid hgrn
        rw [hgrn] at dg4
        clear hN hgr hgrn hmlt hFlt hfi hfm hbi cX5 hgi grX hgiX hBiX hDX hnr hmBi hb1' hM1' cx15 l1 hRx hMx hDx hfx c5 r1
        go_wp2_with fail
        clear LG ST1 hBg
        obtain ⟨X2, hX2⟩ : ∃ X, x1.drew = X := ⟨_, rfl⟩
        have bX2 : Below x1.heap.size x1 X2 := by rw [← hX2]; exact (Below.refl _ x1).drew
        refine region_planN (fun x => ∃ y : KeepT m Bg Bi x1, x = y.1) 24 (.takes [0, 1, 2, 3, 4, 6, 7, 8, 9, 10, 11, 12, 13, 14, 15, 16, 17, 18] (.one 5 (.one 19 (.takes [20, 21, 23, 22] .leaf)))) hmx (by kernel_rfl) ⟨⟨x1.drew, rfl, rfl, rfl⟩, rfl⟩ ?_
        repeat (rw [wpPlanN_takes_cons]; simp only [nth_zero, nth_succ]; go_big_quiet_step (fail); refine wpQuiet_nil ?_)
        rw [wpPlanN_takes_nil, wpPlanN_one]
        simp only [nth_zero, nth_succ]
        clear d0 d12 d13 dg dg4 di
        try rw [hX2]
        clear hX2
        go_wp2_with fail
        go_at_call 50
        refine (gmRing M1.g HGIN.out X2).mono ?_
        rw [Geo.oR, if_pos HGG.out]
        rintro e X3 ⟨rfl, hb3'⟩
        have B13 : Hid (Below x1.heap.size x1 X3) := bX2.trans (hb3'.mono bX2.size)
        clear bX2 hb3'
        go_wp2_with fail
        refine planPost_mk ⟨⟨X3, B13.out.block m HL1.out.1, B13.out.block Bg HL1.out.2.1, B13.out.block Bi HL1.out.2.2⟩, rfl⟩ ?_
        rw [wpPlanN_one]
        simp only [nth_zero, nth_succ]
        have hBX3 : Below X.heap.size X X3 := HBX1.out.trans (B13.out.mono HBX1.out.size)
        have HBX3 := Lib.hid hBX3
        have HAP := Lib.hid (ringOk.append (HRX.out.beside hBX3) HTLX.out.fu HTLX.out.d.1 HTLX.out.d.2 HTLX.out.few (F := 2) (C := M1.g.C) (A := M1.at0) (by have := (Geo.nats HGG.out).c1; omega) (Geo.nats HGG.out).c2 HTLX.out.c HTLX.out.at0 HTLX.out.n0 (seq := M1.seq) ⟨HTLX.out.seq.1, by have := HTLX.out.seq.2; omega⟩ HTLX.out.txn (g := gi) (c := ci) (rangeAt_same HGRX.out (hBX3.block gi HLL.out.1)) (Nat.lt_of_lt_of_le HLL.out.1 hBX3.size) HNR.out.1)
        obtain ⟨RA, hRA⟩ : ∃ R, S1.app 2 M1.g.C M1.at0 M1.seq t = R := ⟨_, rfl⟩
        have HEA : Hid (RA.2 = 0 ∨ RA.2 = 14) := by rw [← hRA]; exact app_e _ _ _ _ _ _
        have HCR : Hid (S.cmt M bs = RA) := by
          have h := app_appW S1 M1 bs
          rw [HDF.out, hRA] at h
          show _ = _
          rw [HCM.out.1, h]
        rw [hRA, ← HGRE.out, HGRN.out, HTN.out] at HAP
        obtain ⟨na, hna⟩ : ∃ x : Int, (if RA.2 = 0 then (((M1.at0 + tn + 1) % M1.g.C : Nat) : Int) else 0) = x := ⟨_, rfl⟩
        rw [hna] at HAP
        have HNA := Lib.hid hna
        clear hBX3 hRA hna
        go_wp2_with fail
        go_at_call 66
        refine HAP.out.mono ?_
        rintro e X4 ⟨rfl, f4, hR4, hT4⟩
        have hk4 : ∀ k, k < X.heap.size → ¬ f1x k → X4.heap[k]? = X.heap[k]? := fun k hk hn => (hT4.out k (Nat.lt_of_lt_of_le hk HBX3.out.size) hn).trans (HBX3.out.block k hk)
        have hf4n : ∀ k, f4 k → f1x k ∨ X.heap.size ≤ k := fun k hk => (hT4.new k hk).imp id (fun h => Nat.le_trans HBX3.out.size h)
        have hm4 : X4.heap[m]? = x1.heap[m]? := (hT4.out m (Nat.lt_of_lt_of_le HMLT.out.1 HBX3.out.size) (fun h => HDXX.out m h (.inl rfl))).trans (B13.out.block m HL1.out.1)
        have hg4 : X4.heap[Bg]? = x1.heap[Bg]? := (hT4.out Bg (Nat.lt_of_lt_of_le HL1.out.2.1 B13.out.size) (fun h => by have := HFLX.out _ h; have := HBG.out; omega)).trans (B13.out.block Bg HL1.out.2.1)
        have hi4 : X4.heap[Bi]? = x1.heap[Bi]? := (hT4.out Bi (Nat.lt_of_lt_of_le HL1.out.2.2 B13.out.size) HNR.out.2.1).trans (B13.out.block Bi HL1.out.2.2)
        have HT4 : Hid (Turn fx (fun k => f4 k ∨ k = m ∨ k = Bbx ∨ k = Bhx) X X4) := by
          show Turn _ _ _ _
          rw [HFX.out]
          exact (Turn.of_below HBX3.out).trans (hT4.frame _)
        have HK4 := Lib.hid hk4
        have HR4 := Lib.hid hR4
        have HF4 := Lib.hid hf4n
        have HS4 : Hid (X.heap.size ≤ X4.heap.size) := Nat.le_trans HBX3.out.size hT4.size
        clear hT4 hk4 hR4 hf4n HAP
        go_wp2_with fail
        refine planPost_mk ⟨⟨X4, hm4, hg4, hi4⟩, rfl⟩ ?_
        clear hm4 hg4 hi4
        repeat (rw [wpPlanN_takes_cons]; simp only [nth_zero, nth_succ]; go_big_quiet_step (fail); refine wpQuiet_nil ?_)
        rw [wpPlanN_takes_nil, wpPlanN_leaf]
        simp only [List.drop_succ_cons, List.drop_zero]
        by_cases hz : RA.2 = 0
        · rw [hz]
          have HZ := Lib.hid hz
          clear hz
          have hna : na = (((M1.at0 + tn + 1) % M1.g.C : Nat) : Int) := by rw [← HNA.out, if_pos HZ.out]
          have HNA2 := Lib.hid hna
          have hM4 : MemAt m rb Bbx cbx Bhx chx ax qx M1 X4 := HMX.out.keep (HK4.out m HMLT.out.1 (fun h => HDXX.out m h (.inl rfl))) (HK4.out Bbx HMLT.out.2.1 (fun h => HDXX.out Bbx h (.inr (.inl rfl)))) (HK4.out Bhx HMLT.out.2.2 (fun h => HDXX.out Bhx h (.inr (.inr rfl))))
          have q13 : X4.cell? ⟨m, 13, none⟩ = some (.int .u32 M1.seq) := hM4.row.cell 13 _ rfl
          have hq0 := HTLX.out.seq.1
          have hq1 := HTLX.out.seq.2
          have q12 : X4.cell? ⟨m, 12, none⟩ = some (.int .i64 M1.at0) := hM4.row.cell 12 _ rfl
          have z12 := hM4.row.frozen 12
          obtain ⟨y0, hy0⟩ : ∃ y, X4.setCell ⟨m, 12, none⟩ (.int .i64 na) = y := ⟨_, rfl⟩
          have rr0 := hM4.row.set 12 (.int .i64 na)
          rw [hy0] at rr0
          have q13' : y0.cell? ⟨m, 13, none⟩ = some (.int .u32 M1.seq) := rr0.cell 13 _ rfl
          have z13 := rr0.frozen 13
          obtain ⟨y1, hy1⟩ : ∃ y, y0.setCell ⟨m, 13, none⟩ (.int .u32 (M1.seq + 1)) = y := ⟨_, rfl⟩
          have rr1 := rr0.set 13 (.int .u32 (M1.seq + 1))
          rw [hy1] at rr1
          have hky1 : ∀ k, k < X4.heap.size → k ≠ m → y1.heap[k]? = X4.heap[k]? := fun k hk hn => by rw [← hy1, ← hy0]; exact (Below.heap_setCell _ _ _ k hn).trans (Below.heap_setCell _ _ _ k hn)
          have hsy1 : X4.heap.size ≤ y1.heap.size := by rw [← hy1, ← hy0, size_setCell, size_setCell]; exact Nat.le_refl _
          have HTS : Hid (Turn (fun k => f4 k ∨ k = m ∨ k = Bbx ∨ k = Bhx) (fun k => f4 k ∨ k = m ∨ k = Bbx ∨ k = Bhx) X4 y1) := by
            show Turn _ _ _ _
            rw [← hy1, ← hy0]
            exact (turn_setCell _ m 12 _ (.inr (.inl rfl))).trans (turn_setCell _ m 13 _ (.inr (.inl rfl)))
          have HM4 := Lib.hid hM4
          have HY1 := Lib.hid hky1
          have HSY1 := Lib.hid hsy1
          have HRR1 := Lib.hid rr1
          clear hM4 hky1 hsy1 hna rr0 rr1
          go_wp2_with fail
          clear q12 z12 q13 q13' z13 hy0 hy1
          have hnB : ¬ f1x Bv := fun h => by
            have h1 : fx Bv := by rw [HFX.out]; exact .inl h
            rcases HTX.out.new Bv h1 with h2 | h2
            · rw [HFF.out] at h2
              rcases h2 with h2 | h2 | h2 | h2
              · exact HVF.out.1 h2
              · exact HVF.out.2.1 h2
              · exact HVF.out.2.2.1 h2
              · exact HVF.out.2.2.2.1 h2
            · have := HVF.out.2.2.2.2; omega
          have hBvX : Bv < X.heap.size := Nat.lt_of_lt_of_le HVF.out.2.2.2.2 HTX.out.size
          have hv1 : y1.heap[Bv]? = w.heap[Bv]? := (HY1.out Bv (Nat.lt_of_lt_of_le hBvX HS4.out) HVF.out.2.1).trans ((HK4.out Bv hBvX hnB).trans HVX.out)
          have hi1 : y1.heap[Bi]? = X.heap[Bi]? := (HY1.out Bi (Nat.lt_of_lt_of_le HLL.out.2.1 HS4.out) (fun e => HLL.out.2.2.2.1 e.symm)).trans (HK4.out Bi HLL.out.2.1 HNR.out.2.1)
          have hd1 : y1.heap[D]? = some (.deferred (some [])) := (HY1.out D (Nat.lt_of_lt_of_le HLL.out.2.2.1 HS4.out) (fun e => HLL.out.2.2.2.2 e.symm)).trans ((HK4.out D HLL.out.2.2.1 HNR.out.2.2).trans HKDX.out)
          have hbi1 : Bi < y1.heap.size := Nat.lt_of_lt_of_le HLL.out.2.1 (Nat.le_trans HS4.out HSY1.out)
          have q14z : ∀ z : Ext y1, z.1.cell? ⟨m, 14, none⟩ = some (.int .i64 M1.room) := fun z => (HRR1.out.below z.2).cell 14 _ rfl
          have qiz : ∀ z : Ext y1, z.1.cell? ⟨Bi, 0, none⟩ = some (.slice (some ⟨gi, 0, none⟩) tn ci) := fun z => (World.cell?_of_block (a := ⟨Bi, 0, none⟩) ((z.2.block Bi hbi1).trans hi1)).trans HCI.out
          have hrm1 := HTLX.out.room.1
          have hrm2 := HTLX.out.room.2
          refine region_planN (fun x => ∃ y : Ext y1, x = y.1) 9 (.takes [0, 1, 2, 3, 4] (.one 5 (.takes [6, 7, 8] .leaf))) hmx (by kernel_rfl) ⟨⟨y1.drew, (Below.refl _ y1).drew⟩, rfl⟩ ?_
          repeat (rw [wpPlanN_takes_cons]; simp only [nth_zero, nth_succ]; go_big_quiet_step (fail); refine wpQuiet_nil ?_)
          rw [wpPlanN_takes_nil, wpPlanN_one]
          simp only [nth_zero, nth_succ]
          clear q14z qiz
          obtain ⟨V2, hV2⟩ : ∃ X, y1.drew = X := ⟨_, rfl⟩
          have bV2 : Below y1.heap.size y1 V2 := by rw [← hV2]; exact (Below.refl _ y1).drew
          try rw [hV2]
          have hV2s : V2.heap.size = y1.heap.size := by rw [← hV2]; rfl
          clear hV2
          go_wp2_with fail
          go_at_call 64
          refine (mvTakes (some ⟨gi, 0, none⟩) tn ci (by omega) V2).mono ?_
          rintro e V' ⟨rfl, hv'⟩
          obtain rfl := hv'.symm
          clear hv'
          go_wp2_with fail
          refine planPost_mk ⟨⟨V2, bV2⟩, rfl⟩ ?_
          repeat (rw [wpPlanN_takes_cons]; simp only [nth_zero, nth_succ]; go_big_quiet_step (fail); refine wpQuiet_nil ?_)
          rw [wpPlanN_takes_nil, wpPlanN_leaf]
          simp only [List.drop_succ_cons, List.drop_zero]
          have rr2 := HRR1.out.below bV2
          have c14 : V2.cell? ⟨m, 14, none⟩ = some (.int .i64 M1.room) := rr2.cell 14 _ rfl
          have f14 := rr2.frozen 14
          obtain ⟨y2, hy2⟩ : ∃ y, V2.setCell ⟨m, 14, none⟩ (.int .i64 (M1.room - ((tn : Int) + 1))) = y := ⟨_, rfl⟩
          have rr3 := rr2.set 14 (.int .i64 (M1.room - ((tn : Int) + 1)))
          rw [hy2] at rr3
          have h2k : ∀ k, k ≠ m → y2.heap[k]? = V2.heap[k]? := fun k hk => by rw [← hy2]; exact Below.heap_setCell _ _ _ k hk
          have h2s : y2.heap.size = V2.heap.size := by rw [← hy2, size_setCell]
          have hv2 : y2.heap[Bv]? = w.heap[Bv]? := (h2k Bv HVF.out.2.1).trans ((bV2.block Bv (Nat.lt_of_lt_of_le hBvX (Nat.le_trans HS4.out HSY1.out))).trans hv1)
          have HSV : Hid (Sl .u8 y2 (.slice (some ⟨Bv, ov, none⟩) n cv) bs) := HVS.out.same (by rw [h2s, hV2s]; exact Nat.le_trans HTX.out.size (Nat.le_trans HS4.out HSY1.out)) (fun b e => by cases e; exact hv2)
          have HD2 : Hid (y2.heap[D]? = some (.deferred (some []))) := (h2k D (fun e => HLL.out.2.2.2.2 e.symm)).trans ((bV2.block D (Array.getElem?_eq_some_iff.1 hd1).1).trans hd1)
          have HY2 : Hid (∀ k, k < X4.heap.size → k ≠ m → y2.heap[k]? = X4.heap[k]?) := fun k hk hn => (h2k k hn).trans ((bV2.block k (Nat.lt_of_lt_of_le hk HSY1.out)).trans (HY1.out k hk hn))
          have HS2 : Hid (X4.heap.size ≤ y2.heap.size) := by show _ ≤ _; rw [h2s, hV2s]; exact HSY1.out
          have HT2 : Hid (Turn (fun k => f4 k ∨ k = m ∨ k = Bbx ∨ k = Bhx) (fun k => f4 k ∨ k = m ∨ k = Bbx ∨ k = Bhx) X4 y2) := by
            show Turn _ _ _ _
            rw [← hy2]
            exact HTS.out.trans ((Turn.of_below bV2).trans (turn_setCell _ m 14 _ (.inr (.inl rfl))))
          have HRR3 := Lib.hid rr3
          have hbn : bs.length = n := by have h1 := HLN.out; have h2 := HN.out; omega
          have HBN := Lib.hid hbn
          have hn0 : 0 < n := by have := HM.out.b0; have := HN.out; omega
          have hnM : n ≤ 714 := by have := HOK.out.len; have := (Geo.nats HOK.out.good).b2; have := HN.out; omega
          have HCL := Lib.hid (cloneBytes y2 HSV.out (by intro e; rw [e] at hbn; simp at hbn; omega) (by omega))
          clear hnB hBvX hv1 hi1 hd1 hbi1 rr2 rr3 h2k h2s hv2 hbn hV2s bV2
          go_wp2_with fail
          clear hy2 c14 f14
          go_at_call 55
          refine HCL.out.mono ?_
          rintro e y3 ⟨v', rfl, hO, hB⟩
          obtain ⟨Bc, cc, rfl, hBcN, hcc, hBcl, hrg⟩ := own_row hO (by rw [HBN.out]; exact hn0)
          have hcur : cc ≤ maxLen ∧ ∃ cur, y3.heap[Bc]? = some (.cells cur 5 (0, 0)) := by
            rcases hO.2 with ⟨h', _⟩ | ⟨g', c', cur, e, h1, h2, h3, h4, _⟩
            · cases h'
            · cases e; exact ⟨h4, cur, h2⟩
          have rr4 := HRR3.out.below hB
          have c1m : y3.cell? ⟨m, 1, none⟩ = some (.slice (some ⟨Bbx, 0, none⟩) M1.b.length cbx) := rr4.cell 1 _ rfl
          have f1m := rr4.frozen 1
          obtain ⟨y4, hy4⟩ : ∃ y, y3.setCell ⟨m, 1, none⟩ (.slice (some ⟨Bc, 0, none⟩) bs.length cc) = y := ⟨_, rfl⟩
          have rr5 := rr4.set 1 (.slice (some ⟨Bc, 0, none⟩) bs.length cc)
          rw [hy4] at rr5
          have h4k : ∀ k, k ≠ m → y4.heap[k]? = y3.heap[k]? := fun k hk => by rw [← hy4]; exact Below.heap_setCell _ _ _ k hk
          have HTY : Hid (Turn (fun k => f4 k ∨ k = m ∨ k = Bbx ∨ k = Bhx) (fun k => f4 k ∨ k = m ∨ k = Bbx ∨ k = Bhx) X4 y4) := by
            show Turn _ _ _ _
            rw [← hy4]
            exact HT2.out.trans ((Turn.of_below hB).trans (turn_setCell _ m 1 _ (.inr (.inl rfl))))
          have hDy : D < y2.heap.size := (Array.getElem?_eq_some_iff.1 HD2.out).1
          have HD4 : Hid (y4.heap[D]? = some (.deferred (some []))) := (h4k D (fun e => HLL.out.2.2.2.2 e.symm)).trans ((hB.block D hDy).trans HD2.out)
          have HY4 : Hid (∀ k, k < X4.heap.size → k ≠ m → y4.heap[k]? = X4.heap[k]?) := fun k hk hn => (h4k k hn).trans ((hB.block k (Nat.lt_of_lt_of_le hk HS2.out)).trans (HY2.out k hk hn))
          have HBC : Hid (y2.heap.size ≤ Bc) := hBcN
          have hBcm : Bc ≠ m := fun e => by have h1 := HMLT.out.1; have h2 := HS4.out; have h3 := HS2.out; omega
          have HRC : Hid (bs.length ≤ cc ∧ cc ≤ maxLen ∧ (∃ cur t, y4.heap[Bc]? = some (.cells cur t (0, 0))) ∧ y4.rangeAt Bc 0 (u8s bs)) := ⟨hcc, hcur.1, by obtain ⟨cur, h⟩ := hcur.2; exact ⟨cur, _, (h4k Bc hBcm).trans h⟩, rangeAt_same hrg (h4k Bc hBcm)⟩
          have HR5 := Lib.hid rr5
          clear hO hBcN hcc hBcl hrg hcur rr4 rr5 h4k hDy hBcm hB
          go_wp2_with fail
          clear hy4 c1m f1m
          refine ⟨by simp, .inl ⟨_, _, rfl, run_takeDeferred HD4.out, ?_⟩⟩
          refine ⟨_, results_tmp rfl _ _ _, by rw [← HER.out, HCR.out, HZ.out]; rfl, ?_⟩
          have hg := grownBy_putObj' y4 D (.deferred none)
          obtain ⟨yF, hyF⟩ : ∃ y, y4.putObj D (.deferred none) = y := ⟨_, rfl⟩
          rw [hyF] at hg ⊢
          have hsz : y4.heap.size ≤ yF.heap.size := hg.size
          have hkF : ∀ k, k < y4.heap.size → k ≠ D → yF.heap[k]? = y4.heap[k]? := fun k h1 h2 => hg.block k h1 (fun e => h2 (by cases e; rfl))
          have hX4 : X.heap.size ≤ X4.heap.size := HS4.out
          have hY4 : X4.heap.size ≤ y4.heap.size := HTY.out.size
          have hDl : D < X.heap.size := HLL.out.2.2.1
          have hmD : m ≠ D := HLL.out.2.2.2.2
          have hml := HMLT.out
          have hDn : ¬ fx D := fun h => HNX.out D h ⟨HGI.out.2.2.2.2.1, HGI.out.2.2.2.2.2⟩
          have hDb : D ≠ Bbx ∧ D ≠ Bhx := by
            rw [HFX.out] at hDn
            exact ⟨fun e => hDn (.inr (.inr (.inl e))), fun e => hDn (.inr (.inr (.inr e)))⟩
          have hf4m : ∀ k, f4 k → k ≠ m ∧ k ≠ D ∧ k ≠ Bc ∧ k ≠ Bhx := fun k hk => by
            have hl := (RigR.isRes rb p0 p1 RA.1).lt HR4.out k hk
            have hc : y2.heap.size ≤ Bc := HBC.out
            have h2 : X4.heap.size ≤ y2.heap.size := HS2.out
            rcases HF4.out k hk with h | h
            · have hd := HDXX.out k h
              exact ⟨fun e => hd (.inl e), fun e => hDn (by rw [HFX.out]; exact .inl (by rw [← e]; exact h)), by omega, fun e => hd (.inr (.inr e))⟩
            · exact ⟨by omega, by omega, by omega, by omega⟩
          have hBcl : Bc < y4.heap.size := by
            obtain ⟨cur, t, h⟩ := HRC.out.2.2.1
            exact (Array.getElem?_eq_some_iff.1 h).1
          have hcB : X4.heap.size ≤ Bc := Nat.le_trans HS2.out HBC.out
          have hBcF : yF.heap[Bc]? = y4.heap[Bc]? := hkF Bc hBcl (by omega)
          have hBhF : yF.heap[Bhx]? = X.heap[Bhx]? := (hkF Bhx (by omega) (fun e => hDb.2 e.symm)).trans ((HY4.out Bhx (by omega) (fun e => HMX.out.mh e.symm)).trans (HK4.out Bhx hml.2.2 (fun h => HDXX.out Bhx h (.inr (.inr rfl)))))
          have hmF : yF.heap[m]? = y4.heap[m]? := hkF m (by omega) hmD
          have e1 : (((M1.app bs).at0 : Nat) : Int) = na := by
            show (((M1.at0 + (M1.dif bs).length + 1) % M1.g.C : Nat) : Int) = na
            rw [HDF.out, HTN.out, HNA2.out]
          have e2 : (M1.app bs).room = M1.room - ((tn : Int) + 1) := by
            show M1.g.r - ((M1.used + (M1.dif bs).length + 1 : Nat) : Int) = M1.g.r - (M1.used : Int) - _
            rw [HDF.out, HTN.out]
            omega
          have hMF : MemAt m rb Bc cc Bhx chx ax qx (M1.app bs) yF := by
            refine ⟨?_, by omega, HMX.out.mh, by omega, by show 0 < bs.length; rw [HBN.out]; exact hn0, HMX.out.h0, ⟨HRC.out.1, HRC.out.2.1⟩, ?_, rangeAt_same HRC.out.2.2.2 hBcF, ?_, rangeAt_same HMX.out.hat hBhF⟩
            · rw [e1, e2]
              show yF.heap[m]? = _
              rw [hmF]
              exact HR5.out
            · obtain ⟨cur, t, h⟩ := HRC.out.2.2.1
              exact ⟨cur, t, hBcF.trans h⟩
            · obtain ⟨cur, t, h⟩ := HMX.out.ch'
              exact ⟨cur, t, hBhF.trans h⟩
          have hRF : RigR rb p0 p1 RA.1 yF f4 := (RigR.isRes rb p0 p1 RA.1).out HR4.out fun k hk => by
            have hl := (RigR.isRes rb p0 p1 RA.1).lt HR4.out k hk
            exact (hkF k (by omega) (hf4m k hk).2.1).trans (HY4.out k hl (hf4m k hk).1)
          have hTF : Turn f (fun k => f4 k ∨ k = m ∨ k = Bc ∨ k = Bhx) w yF := by
            refine ((HTX.out.trans (HT4.out.trans HTY.out)).kept hg (fun r e => by cases e; exact HGI.out.2.2.2.2.1)).less fun k hk => ?_
            have h1 := HTX.out.size
            rcases hk with h | h | h | h
            · exact .inl (.inl h)
            · exact .inl (.inr (.inl h))
            · right; omega
            · exact .inl (.inr (.inr (.inr h)))
          refine ⟨_, ?_, hTF⟩
          rw [← HPO.out, HCR.out, if_pos HZ.out, HCM.out.2]
          exact ⟨f4, _, hRF, ⟨Bc, cc, Bhx, chx, ax, qx, hMF, rfl⟩, fun k hk h => by
            have := hf4m k hk
            rcases h with h | h | h
            · exact this.1 h
            · exact this.2.2.1 h
            · exact this.2.2.2 h, rfl⟩
        · have h14 : RA.2 = 14 := HEA.out.resolve_left hz
          rw [h14]
          have HE14 := Lib.hid h14
          clear hz h14
          go_wp2_with fail
          refine ⟨by simp, .inl ⟨_, _, rfl, run_takeDeferred ((HK4.out D HLL.out.2.2.1 HNR.out.2.2).trans HKDX.out), ?_⟩⟩
          refine ⟨_, results_tmp rfl _ _ _, by rw [← HER.out, HCR.out, HE14.out]; rfl, ?_⟩
          have hg := grownBy_putObj' X4 D (.deferred none)
          have hD4 : ¬ f4 D := fun h => by
            rcases HF4.out D h with h | h
            · exact HNR.out.2.2 h
            · have := HLL.out.2.2.1; omega
          refine ⟨f4, ?_, ((HTX.out.trans HT4.out).less (fun k hk => .inl (.inl hk))).kept hg (fun r e => by cases e; exact HGI.out.2.2.2.2.1)⟩
          rw [← HPO.out, HCR.out, if_neg (by rw [HE14.out]; decide)]
          exact (RigR.isRes rb p0 p1 RA.1).out HR4.out fun k hk => hg.block k ((RigR.isRes rb p0 p1 RA.1).lt HR4.out k hk) (fun e => by cases e; exact hD4 hk)
  case stop =>
    rintro D c pre W hD _ h _
    exact h.elim
end
end Go.Proofs.YtbdfllamhcodjaaGreat

/- The developers' Meta: what is turned down. -/
namespace Go.Proofs.YtbdfllamhcodjaaGreat
open Go.RowKit Go.Shelf
set_option linter.unusedVariables false
attribute [-simp] Tryz.isAgg60 Tryz.zeroValue60 Tryz.isAgg112 Tryz.zeroValue112 Tryz.isAgg189 Tryz.zeroValue189 Tryz.isAgg133 Tryz.zeroValue133 Tryz.isAgg114 Tryz.zeroValue114 Tryz.isAgg105 Tryz.zeroValue105 Tryz.isAgg23 Tryz.zeroValue23
attribute [-go_sem] loadVar storeVar run_equalIn_agg
attribute [local go_sem] zero_blk build_blk zero_bod zero_pg build_pg build_pg0 build_pg2 zero_imgD zero_wr zero_sup zero_geoM build_geoM loadVar_openV storeVar_openV
section
set_option maxRecDepth 100000
set_option maxHeartbeats 20000000
set_option maxRecDepth 100000 in
theorem mvCommit_nil (w : World) {v : Value} {bs : List Int} (hv : Sl .u8 w v bs) : Calls Tryz.prog 19 #[.pointer none, v] w fun e w' => e = .returned (.int .i64 1) ∧ Below w.heap.size w w' := by
  refine (callsIn_wide (n := 3)).1 ?_
  refine callsIn_of_wp_marks Tryz.func19 rfl trivial ?_ rfl
  simp only [Tryz.ntmps19, List.size_toArray, List.length_cons, List.length_nil, Nat.reduceAdd, Nat.reduceSub, Array.replicate_succ, Array.replicate_zero, List.push_toArray, List.append_toArray, List.nil_append, List.cons_append]
  gi_wp2_with fail
  exact ⟨_, results_tmp rfl _ _ _, rfl, Below.refl _ _⟩
set_option maxRecDepth 100000 in
theorem mvCommit_no {m rb : Nat} {M : MS} {w : World} {f : Nat → Prop} (h : MemX m rb M w f) {v : Value} {bs : List Int} (hv : Sl .u8 w v bs) (hl : bs.length ≠ M.b.length) : Calls Tryz.prog 19 #[.pointer (some ⟨m, 0, none⟩), v] w fun e w' => e = .returned (.int .i64 1) ∧ Below w.heap.size w w' := by
  obtain ⟨Bb, cb, Bh, ch, a, q, h, rfl⟩ := h
  obtain ⟨av, c', rfl, _⟩ := hv
  have c1 : w.cell? ⟨m, 1, none⟩ = some (.slice (some ⟨Bb, 0, none⟩) M.b.length cb) := h.row.cell 1 _ rfl
  have g1 : ((bs.length : Int) != (M.b.length : Int)) = true := by simp only [bne_iff_ne, ne_eq]; omega
  clear h
  refine (callsIn_wide (n := 3)).1 ?_
  refine callsIn_of_wp_marks Tryz.func19 rfl trivial ?_ rfl
  simp only [Tryz.ntmps19, List.size_toArray, List.length_cons, List.length_nil, Nat.reduceAdd, Nat.reduceSub, Array.replicate_succ, Array.replicate_zero, List.push_toArray, List.append_toArray, List.nil_append, List.cons_append]
  gi_wp2_with fail
  exact ⟨_, results_tmp rfl _ _ _, rfl, Below.refl _ _⟩
set_option maxRecDepth 100000 in
theorem mvOpen_nil (w : World) : Calls Tryz.prog 26 #[.pointer none] w fun e w' => e = .returned (.tuple #[.pointer none, .int .i64 1]) ∧ Below w.heap.size w w' := by
  go_enter Tryz.func26, Tryz.ntmps26
  go_wp2_with fail
  refine bodyPost_ret (results_tmp2 rfl _ _ _) rfl ?_
  exact ⟨rfl, Below.refl _ _⟩
end
end Go.Proofs.YtbdfllamhcodjaaGreat

/- What replaying yields: images that are whole, and few. No program is named. -/
namespace Go.Proofs.YtbdfllamhcodjaaGreat
set_option linter.unusedVariables false

/-- An image as it is read. -/
def ImgW (x : Img) : Prop := 0 ≤ x.index ∧ x.body.length = 48 ∧ IsBytes x.body
theorem oneGo_whole {g : Nat → List Int} {seq : Int} (hg : ∀ k, IsBytes (g k) ∧ (g k).length = 64) : ∀ (f k : Nat) (acc t : List Img), oneGo g seq f k acc = some t → (∀ x ∈ acc, ImgW x) → (∀ x ∈ t, ImgW x) ∧ t.length ≤ acc.length + f
  | 0, _, _, _, h, _ => by cases h
  | f + 1, k, acc, t, h, ha => by
    unfold oneGo at h
    split at h
    · cases h
    · split at h
      · split at h
        · cases h
        · cases h; exact ⟨ha, by omega⟩
      · split at h
        · cases h
        · have hp := of_ok (hg k).1 (hg k).2
          have hi := of_index (hg k).1 (hg k).2
          obtain ⟨h1, h2⟩ := oneGo_whole hg f (k + 1) _ t h (fun x hx => by
            rcases List.mem_append.1 hx with hx | hx
            · exact ha x hx
            · rw [List.mem_singleton.1 hx]
              exact ⟨hi.1, hp.len, hp.bytes⟩)
          refine ⟨h1, ?_⟩
          rw [List.length_append] at h2
          simp only [List.length_cons, List.length_nil] at h2
          omega
theorem oneS_whole {rd : Nat → List Int} {frm count at0 : Nat} {seq : Int} (hc : 0 < count) (hg : ∀ k, frm ≤ k → k < frm + count → IsBytes (rd k) ∧ (rd k).length = 64) {t : List Img} (h : oneS rd frm count at0 seq = some t) : (∀ x ∈ t, ImgW x) ∧ t.length ≤ count := by
  obtain ⟨h1, h2⟩ := oneGo_whole (fun k => hg _ (Nat.le_add_right _ _) (Nat.add_lt_add_left (Nat.mod_lt _ hc) _)) count 0 [] t h (fun x hx => by cases hx)
  exact ⟨h1, by simpa using h2⟩
theorem repGo_whole {rd : Nat → List Int} {frm count : Nat} (hc : 0 < count) (hg : ∀ k, frm ≤ k → k < frm + count → IsBytes (rd k) ∧ (rd k).length = 64) : ∀ (f at0 : Nat) (seq : Int) (acc : List (List Img)), (∀ t ∈ acc, (∀ x ∈ t, ImgW x) ∧ t.length ≤ count) →
    (∀ t ∈ (repGo rd frm count f at0 seq acc).1, (∀ x ∈ t, ImgW x) ∧ t.length ≤ count) ∧ (repGo rd frm count f at0 seq acc).1.length ≤ acc.length + f
  | 0, at0, seq, acc, h => ⟨h, Nat.le_refl _⟩
  | f + 1, at0, seq, acc, h => by
    unfold repGo
    cases ho : oneS rd frm count at0 seq with
    | none => exact ⟨h, by show acc.length ≤ _; omega⟩
    | some t =>
      obtain ⟨h1, h2⟩ := repGo_whole hc hg f ((at0 + t.length + 1) % count) ((seq + 1) % 4294967296) (acc ++ [t]) (fun u hu => by
        rcases List.mem_append.1 hu with hu | hu
        · exact h u hu
        · rw [List.mem_singleton.1 hu]; exact oneS_whole hc hg ho)
      refine ⟨h1, ?_⟩
      rw [List.length_append] at h2
      simp only [List.length_cons, List.length_nil] at h2
      show (repGo rd frm count f ((at0 + t.length + 1) % count) ((seq + 1) % 4294967296) (acc ++ [t])).1.length ≤ _
      omega
theorem few_flat {count : Nat} : ∀ (ts : List (List Img)), (∀ t ∈ ts, t.length ≤ count) → ts.flatten.length ≤ ts.length * count ∧ usedBy ts = ts.flatten.length + ts.length
  | [], _ => ⟨by simp, rfl⟩
  | t :: ts, h => by
    obtain ⟨h1, h2⟩ := few_flat ts (fun u hu => h u (List.mem_cons_of_mem _ hu))
    have h3 := h t (List.mem_cons_self ..)
    refine ⟨?_, ?_⟩
    · rw [List.flatten_cons, List.length_append, List.length_cons, Nat.add_mul, Nat.one_mul]
      omega
    · rw [List.flatten_cons, List.length_append, List.length_cons]
      have e : usedBy (t :: ts) = t.length + 1 + usedBy ts := by unfold usedBy; simp
      rw [e, h2]
      omega
/-- **What replaying yields is whole, and little.** -/
theorem repS_whole {rd : Nat → List Int} {frm count at0 : Nat} {seq : Int} (hc : 0 < count) (hc2 : count ≤ 256) (hg : ∀ k, frm ≤ k → k < frm + count → IsBytes (rd k) ∧ (rd k).length = 64) :
    (∀ x ∈ (repS rd frm count at0 seq).1.flatten, 0 ≤ x.index ∧ x.body.length = 48) ∧ (repS rd frm count at0 seq).1.flatten.length ≤ 100000 ∧ (repS rd frm count at0 seq).1.length ≤ 256 ∧ usedBy (repS rd frm count at0 seq).1 ≤ 100000 := by
  obtain ⟨h1, h2⟩ := repGo_whole hc hg count at0 seq [] (fun t h => by cases h)
  have h2' : (repS rd frm count at0 seq).1.length ≤ 256 := Nat.le_trans h2 (by simpa using hc2)
  obtain ⟨h3, h4⟩ := few_flat (repS rd frm count at0 seq).1 (fun t ht => (h1 t ht).2)
  have h5 : (repS rd frm count at0 seq).1.length * count ≤ 256 * 256 := Nat.mul_le_mul h2' hc2
  refine ⟨fun x hx => ?_, by omega, h2', by omega⟩
  obtain ⟨t, ht, hxt⟩ := List.mem_flatten.1 hx
  have := (h1 t ht).1 x hxt
  exact ⟨this.1, this.2.1⟩
end Go.Proofs.YtbdfllamhcodjaaGreat

/- The developers' Open. -/
namespace Go.Proofs.YtbdfllamhcodjaaGreat
open Go.RowKit Go.Shelf
set_option linter.unusedVariables false
attribute [-simp] Tryz.isAgg60 Tryz.zeroValue60 Tryz.isAgg112 Tryz.zeroValue112 Tryz.isAgg189 Tryz.zeroValue189 Tryz.isAgg133 Tryz.zeroValue133 Tryz.isAgg114 Tryz.zeroValue114 Tryz.isAgg105 Tryz.zeroValue105 Tryz.isAgg23 Tryz.zeroValue23 Tryz.isAgg157 Tryz.zeroValue157 Tryz.isAgg120 Tryz.zeroValue120
attribute [-go_sem] loadVar storeVar run_equalIn_agg
section
set_option maxRecDepth 100000
set_option maxRecDepth 100000 in
theorem zero_logM (w : World) : (zeroValue 157).run Tryz.prog w = .ok (.agg #[.slice none 0 0, .int .i64 0, .int .u32 0]) w := by kernel_rfl
set_option maxRecDepth 100000 in
theorem build_mt (w : World) (rb : Nat) (a a' : Option Addr) (n c n' c' : Nat) (gen : Int) (g : Geo) (x q wh at0 sq room : Int) :
    (Instr.build 120 #[(0, .pointer (some ⟨rb, 0, none⟩)), (1, .slice a n c), (2, .slice a' n' c'), (3, .agg (supC gen g x q).toArray), (4, .int .i64 wh), (5, .agg #[.int .i64 at0, .int .u32 sq]), (6, .int .i64 room)]).run Tryz.prog w =
      .ok (.agg (mtC rb (.slice a n c) (.slice a' n' c') gen g x q wh at0 sq room).toArray) w := by kernel_rfl
end
attribute [local go_sem] zero_blk build_blk zero_bod zero_pg build_pg build_pg0 build_pg2 zero_imgD zero_wr zero_sup zero_geoM build_geoM zero_spot zero_logM build_spot loadVar_openV storeVar_openV
theorem newer_of {a b : Option Sup} {j : Nat} {x : Sup} (h : newer a b = some (j, x)) : (j = 0 ∧ a = some x) ∨ (j = 1 ∧ b = some x) := by
  unfold newer at h
  cases b with
  | none =>
    cases a with
    | none => cases h
    | some y => left; cases h; exact ⟨rfl, rfl⟩
  | some y =>
    cases a with
    | none => right; cases h; exact ⟨rfl, rfl⟩
    | some z =>
      dsimp only at h
      split at h
      · right; cases h; exact ⟨rfl, rfl⟩
      · left; cases h; exact ⟨rfl, rfl⟩
/-- What a superblock that is told of says. -/
theorem newer_tells {S : RS} (hby : S.Byt) {j : Nat} {x : Sup} (h : newer (S.supAt 0) (S.supAt 1) = some (j, x)) : j ≤ 1 ∧ x.g.fitsR S.n0 S.n1 ∧ (x.a : Int) < x.g.r ∧ SupIn x.gen x.g x.a x.q := by
  have key : ∀ i, S.supAt i = some x → x.g.fitsR S.n0 S.n1 ∧ (x.a : Int) < x.g.r ∧ SupIn x.gen x.g x.a x.q := fun i hi => by
    unfold RS.supAt at hi
    split at hi
    · rename_i hl
      rcases sup_tells S.n0 S.n1 (hby i hl).1 (hby i hl).2.1 with ⟨y, h1, _, _, h4, h5⟩ | ⟨h1, _⟩
      · rw [h1] at hi; cases hi; exact ⟨h4.1, h4.2, h5⟩
      · rw [h1] at hi; cases hi
    · cases hi
  rcases newer_of h with ⟨rfl, h1⟩ | ⟨rfl, h1⟩
  · exact ⟨by omega, key 0 h1⟩
  · exact ⟨Nat.le_refl _, key 1 h1⟩
theorem layI_all {now : List (List Int)} {x : Img} (h : ∀ y ∈ now, y.length = 48) (hx : x.body.length = 48) : ∀ y ∈ layI now x, y.length = 48 := by
  intro y hy
  unfold layI at hy
  split at hy
  · rcases List.mem_or_eq_of_mem_set hy with h1 | h1
    · exact h y h1
    · rw [h1]; exact hx
  · exact h y hy
theorem fold_all : ∀ (l : List Img) (now : List (List Int)), (∀ y ∈ now, y.length = 48) → (∀ x ∈ l, x.body.length = 48) → ∀ y ∈ l.foldl layI now, y.length = 48
  | [], _, h, _ => h
  | x :: l, now, h, hl => fold_all l (layI now x) (layI_all h (hl x (List.mem_cons_self ..))) (fun z hz => hl z (List.mem_cons_of_mem _ hz))
theorem flat48 : ∀ (l : List (List Int)), (∀ y ∈ l, y.length = 48) → l.flatten.length = 48 * l.length
  | [], _ => rfl
  | x :: l, h => by
    rw [List.flatten_cons, List.length_append, flat48 l (fun y hy => h y (List.mem_cons_of_mem _ hy)), h x (List.mem_cons_self ..), List.length_cons]
    omega
theorem layTs_flen {home : List (List Int)} {ts : List (List Img)} (h : ∀ y ∈ home, y.length = 48) (hi : ∀ x ∈ ts.flatten, 0 ≤ x.index ∧ x.body.length = 48) : (layTs home ts).flatten.length = 48 * home.length := by
  rw [flat48 _ (by rw [layTs_flat]; exact fold_all _ _ h (fun x hx => (hi x hx).2)), layTs_length]
theorem wpPlanN_take {P : Program} {Q : Exit → Act → World → Prop} {S : World → Prop} {l : List Oper} {n i : Nat} {p : Plan} {a : Act} {w : World} : wpPlanN P l Q S n (.take i p) a w = wpQuiet P l.toArray S (fun a' => wpPlanN P l Q S n p a' w) [nth l i] a := rfl
section
set_option maxRecDepth 100000
set_option maxHeartbeats 20000000
set_option maxRecDepth 100000 in
/-- **Open**. -/
theorem mvOpen {rb p0 p1 : Nat} {S : RS} {w : World} {f : Nat → Prop} (h : RigR rb p0 p1 S w f) (hr : S.Rdy) (hup : S.down = false) (hn2 : 2 ≤ S.n0) :
    Calls Tryz.prog 26 #[.pointer (some ⟨rb, 0, none⟩)] w fun e w' => ((∃ M m fm, S.opn = some M ∧ e = .returned (.tuple #[.pointer (some ⟨m, 0, none⟩), .int .i64 0]) ∧ MemX m rb M w' fm ∧ ∀ k, fm k → w.heap.size ≤ k) ∨ (S.opn = none ∧ e = .returned (.tuple #[.pointer none, .int .i64 11]))) ∧ Below w.heap.size w w' := by
  have hby := hr.bb.byt
  have HNW := Lib.hid (mvNewer h hby hup hn2)
  have hop : ∀ nv, newer (S.supAt 0) (S.supAt 1) = nv → S.opn = match nv with
    | none => none
    | some (k, x) => if ∀ i, i < x.g.P → homP (S.rd (x.g.H + i)) i then some { g := x.g, b := ((layTs (S.homes x.g.H x.g.P) (repS S.rd 2 x.g.C x.a x.q).1).flatten).take x.g.bts.toNat, home := S.homes x.g.H x.g.P, gen := x.gen, sup := k, at0 := (repS S.rd 2 x.g.C x.a x.q).2.1, seq := (repS S.rd 2 x.g.C x.a x.q).2.2, used := usedBy (repS S.rd 2 x.g.C x.a x.q).1 } else none := fun nv e => by
    subst e
    rfl
  have hNT : ∀ j x, newer (S.supAt 0) (S.supAt 1) = some (j, x) → j ≤ 1 ∧ x.g.fitsR S.n0 S.n1 ∧ (x.a : Int) < x.g.r ∧ SupIn x.gen x.g x.a x.q := fun j x e => newer_tells hby e
  obtain ⟨nv, hnv⟩ : ∃ nv, newer (S.supAt 0) (S.supAt 1) = nv := ⟨_, rfl⟩
  have HOP := Lib.hid (hop nv hnv)
  rw [hnv] at HNW
  have HNT : Hid (∀ j x, nv = some (j, x) → j ≤ 1 ∧ x.g.fitsR S.n0 S.n1 ∧ (x.a : Int) < x.g.r ∧ SupIn x.gen x.g x.a x.q) := fun j x e => hNT j x (hnv.trans e)
  have HH := Lib.hid h
  have HRY := Lib.hid hr
  have HBY := Lib.hid hby
  have HUP := Lib.hid hup
  have hmx : Tryz.prog.follows .mixedOrders = true := by kernel_rfl
  clear h hr hup hn2 hby hop hNT hnv
  go_enter Tryz.func26, Tryz.ntmps26
  go_wp2_with fail
  go_at_call 78
  refine HNW.out.mono ?_
  rintro e x1 ⟨rfl, hb⟩
  cases nv with
  | none =>
    obtain ⟨x2, ST2, r2, hb2⟩ := new_supV x1 (C := zsup) rfl (curF_one none)
    have HB2 : Hid (Below w.heap.size w x2) := hb.trans (hb2.mono hb.size)
    clear hb r2 hb2
    rw [show newV none = #[.agg zsup.toArray, .int .i64 0, .int .i64 11] from rfl]
    obtain ⟨zc, hzc⟩ : ∃ c, zsup.toArray = c := ⟨_, rfl⟩
    rw [hzc]
    rw [hzc] at ST2
    go_wp2_with fail
    refine bodyPost_ret (results_tmp2 rfl _ _ _) rfl ?_
    exact ⟨.inr ⟨HOP.out, rfl⟩, HB2.out⟩
  | some p =>
    obtain ⟨j, x⟩ := p
    have HOP : Hid (S.opn = if ∀ i, i < x.g.P → homP (S.rd (x.g.H + i)) i then some { g := x.g, b := ((layTs (S.homes x.g.H x.g.P) (repS S.rd 2 x.g.C x.a x.q).1).flatten).take x.g.bts.toNat, home := S.homes x.g.H x.g.P, gen := x.gen, sup := j, at0 := (repS S.rd 2 x.g.C x.a x.q).2.1, seq := (repS S.rd 2 x.g.C x.a x.q).2.2, used := usedBy (repS S.rd 2 x.g.C x.a x.q).1 } else none) := HOP.out
    obtain ⟨hj, hfit, hax, hin⟩ := HNT.out j x rfl
    obtain ⟨hgood, hf0, hf1⟩ := hfit
    obtain ⟨nH, nP, nR, nB, nC⟩ := Geo.goodNums hgood
    have hN := Geo.nats hgood
    have hgi := Geo.goodIn hgood
    have hHP : x.g.H + x.g.P ≤ S.n0 := by have := hN.f; have := hN.s1; unfold Geo.H; omega
    have hCn : 2 + x.g.C ≤ S.n0 := by have := hHP; unfold Geo.H at this; omega
    have hW := repS_whole (rd := S.rd) (frm := 2) (count := x.g.C) (at0 := x.a) (seq := x.q) (by have := hN.c1; omega) hN.c2 (fun k h1 h2 => ⟨(HBY.out k (by omega)).1, (HBY.out k (by omega)).2.1⟩)
    have HRP : Hid (∀ Y, Below w.heap.size w Y → Calls Tryz.prog 80 #[.pointer (some ⟨rb, 0, none⟩), .int .i64 ((2 : Nat) : Int), .int .i64 (x.g.C : Int), .int .i64 (x.a : Int), .int .u32 x.q] Y fun e w' =>
      (∃ v, e = .returned (.tuple #[.agg (logD v (repS S.rd 2 x.g.C x.a x.q).2.1 (repS S.rd 2 x.g.C x.a x.q).2.2).toArray, .int .i64 0]) ∧ TxnsR 130 133 w' Y.heap.size v (repS S.rd 2 x.g.C x.a x.q).1) ∧ Below Y.heap.size Y w') := fun Y hY =>
      ringOk.replay (HH.out.beside hY) HBY.out HUP.out (by have := hN.c1; omega) hN.c2 hCn (by omega) HRY.out.n0 ⟨hin.seq.1, by have := hin.seq.2; omega⟩
    have HRH : Hid (∀ Y, Below w.heap.size w Y → Calls Tryz.prog 79 #[.pointer (some ⟨rb, 0, none⟩), .agg x.g.v] Y fun e w' =>
      (((∀ i, i < x.g.P → homP (S.rd (x.g.H + i)) i) ∧ ∃ v, e = .returned (.tuple #[v, .int .i64 0]) ∧ w'.ownsRow Y.heap.size 112 48 v x.g.P ((S.homes x.g.H x.g.P).map u8s).flatten) ∨ ((¬ ∀ i, i < x.g.P → homP (S.rd (x.g.H + i)) i) ∧ e = .returned (.tuple #[.slice none 0 0, .int .i64 11]))) ∧ Below Y.heap.size Y w') := fun Y hY =>
      mvReadHomes (HH.out.beside hY) HBY.out HUP.out hgi nH nP hHP HRY.out.n0
    have HM0 : Hid (∀ y ∈ S.homes x.g.H x.g.P, y.length = 48) := fun y hy => by
      unfold RS.homes at hy
      obtain ⟨i, hi, rfl⟩ := List.mem_map.1 hy
      have hi' := List.mem_range.1 hi
      have hb := HBY.out (x.g.H + i) (by omega)
      exact (of_ok hb.1 hb.2.1).len
    have hml : (S.homes x.g.H x.g.P).length = x.g.P := by unfold RS.homes; simp
    have HML := Lib.hid hml
    obtain ⟨RP, hRP⟩ : ∃ R, repS S.rd 2 x.g.C x.a x.q = R := ⟨_, rfl⟩
    rw [hRP] at HRP HOP hW
    obtain ⟨hm, hhm⟩ : ∃ l, S.homes x.g.H x.g.P = l := ⟨_, rfl⟩
    rw [hhm] at HRH HOP HM0 HML
    obtain ⟨ts, ta, tq⟩ := RP
    obtain ⟨w1, w2, w3, w4⟩ := hW
    have HW1 := Lib.hid w1
    have HW2 := Lib.hid w2
    have HW4 := Lib.hid w4
    have hfl := layTs_flen HM0.out w1
    rw [HML.out] at hfl
    have HFL := Lib.hid hfl
    have HIN := Lib.hid hin
    have HGI := Lib.hid hgi
    have HNR := Lib.hid nR
    have HNB := Lib.hid nB
    have HNT2 := Lib.hid hN
    have HGD := Lib.hid hgood
    obtain ⟨gr, hgr⟩ : ∃ r, x.g.r = r := ⟨_, rfl⟩
    have HGR := Lib.hid hgr
    rw [← nC, hgr] at HRP
    clear hax hin hgood hf0 hf1 nH nP nR nB nC hN hgi hHP hCn hml hRP hhm w1 w2 hfl HNT HNW hgr
    obtain ⟨sc, hsc⟩ : ∃ c, (supC x.gen x.g x.a x.q).toArray = c := ⟨_, rfl⟩
    have HSC := Lib.hid hsc
    obtain ⟨x2, ST2, r2, hb2⟩ := new_supV x1 (C := supC x.gen x.g x.a x.q) rfl (supC_one _ _ _ _)
    rw [hsc] at ST2
    obtain ⟨B4, hB4⟩ : ∃ b, x1.heap.size = b := ⟨_, rfl⟩
    rw [hB4] at ST2 r2
    have K2 : Hid (Below w.heap.size w x2) := hb.trans (hb2.mono hb.size)
    have hB4w : w.heap.size ≤ B4 := by rw [← hB4]; exact hb.size
    have LG : (loadVar 23 ⟨B4, 1, none⟩).run Tryz.prog x2 = .ok (.agg x.g.v) x2 := r2.geoAt (g := x.g) (pre := [.int .u32 x.gen]) (post := [.int .i64 x.a, .int .u32 x.q]) rfl
    have R2 := Lib.hid r2
    rw [show newV (some (j, x)) = #[.agg sc, .int .i64 (j : Int), .int .i64 0] from by rw [← hsc]; rfl]
    clear hb hb2 r2 hsc
    go_wp2_with fail
    clear ST2 hB4 LG
    go_at_call 79
    refine (HRH.out x2 K2.out).mono ?_
    rintro e x3 ⟨hcase, hb⟩
    have K3 : Hid (Below w.heap.size w x3) := K2.out.trans (hb.mono K2.out.size)
    have R3 := Lib.hid (R2.out.below hb)
    clear HRH
    rcases hcase with ⟨hok, v, rfl, hO⟩ | ⟨hno, rfl⟩
    · have hop : S.opn = some { g := x.g, b := ((layTs hm ts).flatten).take x.g.bts.toNat, home := hm, gen := x.gen, sup := j, at0 := ta, seq := tq, used := usedBy ts } := by rw [HOP.out]; exact if_pos hok
      obtain ⟨gh, ch, cur, rfl, hpg, hghN, hcur⟩ := PgsR.of_owns hO HML.out (by have := HNT2.out.p1; omega) HM0.out (by have := HNT2.out.p2; omega)
      obtain ⟨P, hP⟩ : ∃ P, x.g.P = P := ⟨_, rfl⟩
      rw [hP] at hpg
      rw [hP]
      have HP := Lib.hid hP
      have HOPN := Lib.hid hop
      have HPG := Lib.hid hpg
      have HCU := Lib.hid hcur
      have HGH : Hid (w.heap.size ≤ gh) := Nat.le_trans K2.out.size hghN
      clear hok hO hop hpg hghN hcur hb HOP hP
      have dg : ∀ z : Ext x3, (loadVar 23 ⟨B4, 1, none⟩).run Tryz.prog z.1 = .ok (.agg x.g.v) z.1 := fun z => (R3.out.below z.2).geoAt (g := x.g) (pre := [.int .u32 x.gen]) (post := [.int .i64 x.a, .int .u32 x.q]) rfl
      have d5 : ∀ z : Ext x3, z.1.cell? ⟨B4, 5, none⟩ = some (.int .i64 gr) := fun z => by rw [← HGR.out]; exact (R3.out.below z.2).cell 5 _ rfl
      have d6 : ∀ z : Ext x3, z.1.cell? ⟨B4, 6, none⟩ = some (.int .i64 (x.a : Int)) := fun z => (R3.out.below z.2).cell 6 _ rfl
      have d7 : ∀ z : Ext x3, z.1.cell? ⟨B4, 7, none⟩ = some (.int .u32 x.q) := fun z => (R3.out.below z.2).cell 7 _ rfl
      go_wp2_with fail
      refine region_planN (fun x => ∃ y : Ext x3, x = y.1) 19 (.takes [0, 1, 2, 4, 5, 6, 7, 8, 9, 10, 11, 12] (.two 3 17 (.two 13 17 (.takes [14, 15, 16] (.one 17 (.one 18 .leaf))) (.one 13 (.takes [14, 15, 16] (.one 18 .leaf)))) (.one 3 (.one 13 (.takes [14, 15, 16] (.one 18 .leaf)))))) hmx (by kernel_rfl) ⟨⟨x3.drew, (Below.refl _ x3).drew⟩, rfl⟩ ?_
      repeat (rw [wpPlanN_takes_cons]; simp only [nth_zero, nth_succ]; go_big_quiet_step (fail); refine wpQuiet_nil ?_)
      rw [wpPlanN_takes_nil, wpPlanN_two]
      simp only [nth_zero, nth_succ]
      clear dg d5 d6 d7
      obtain ⟨Y, hY⟩ : ∃ X, x3.drew = X := ⟨_, rfl⟩
      have BY : Hid (Below x3.heap.size x3 Y) := by show Below _ _ _; rw [← hY]; exact (Below.refl _ x3).drew
      try rw [hY]
      clear hY
      refine ⟨?_, ?_⟩
      · go_wp2_with fail
        go_at_call 50
        refine (gmRing x.g HGI.out Y).mono ?_
        rw [HNR.out]
        rintro e Y' ⟨rfl, hb⟩
        have BY' : Hid (Below x3.heap.size x3 Y') := BY.out.trans (hb.mono BY.out.size)
        clear hb BY
        obtain ⟨Y, rfl⟩ : ∃ y, y = Y' := ⟨_, rfl⟩
        have BY := BY'
        clear BY'
        go_wp2_with fail
        refine planPost_mk ⟨⟨Y, BY.out⟩, rfl⟩ ?_
        rw [wpPlanN_two]
        simp only [nth_zero, nth_succ]
        refine ⟨?_, ?_⟩
        · go_wp2_with fail
          go_at_call 80
          refine (HRP.out Y (K3.out.trans (BY.out.mono K3.out.size))).mono ?_
          rintro e Y' ⟨⟨vt, rfl, ht⟩, hb⟩
          obtain ⟨ra, cc, rfl, -⟩ := ht.at
          have BY' : Hid (Below x3.heap.size x3 Y') := BY.out.trans (hb.mono BY.out.size)
          have HT := Lib.hid ht
          obtain ⟨lc, hlc⟩ : ∃ c, (logD (.slice ra ts.length cc) ta tq).toArray = c := ⟨_, rfl⟩
          have HLC := Lib.hid hlc
          rw [hlc]
          clear hb BY ht hlc
          obtain ⟨Y, rfl⟩ : ∃ y, y = Y' := ⟨_, rfl⟩
          have BY := BY'
          clear BY'
          go_wp2_with fail
          refine planPost_mk ⟨⟨Y, BY.out⟩, rfl⟩ ?_
          repeat (rw [wpPlanN_takes_cons]; simp only [nth_zero, nth_succ]; go_big_quiet_step (fail); refine wpQuiet_nil ?_)
          rw [wpPlanN_takes_nil, wpPlanN_one]
          simp only [nth_zero, nth_succ]
          obtain ⟨Y', hY'⟩ : ∃ y, Y.alloc (.cells #[.slice none 0 0, .int .i64 0, .int .u32 0] 157) = y := ⟨_, rfl⟩
          obtain ⟨Bt, hBt⟩ : ∃ b, Y.heap.size = b := ⟨_, rfl⟩
          have RL : Hid (RowC Y' Bt 157 [.slice none 0 0, .int .i64 0, .int .u32 0]) := by show RowC _ _ _ _; rw [← hY', ← hBt]; exact RowC.new Y _ _
          have hb : Below Y.heap.size Y Y' := by rw [← hY']; exact below_new Y _
          have BY' : Hid (Below x3.heap.size x3 Y') := BY.out.trans (hb.mono BY.out.size)
          have HBT : Hid (x3.heap.size ≤ Bt) := by show _ ≤ _; rw [← hBt]; exact BY.out.size
          have HT' := Lib.hid (HT.out.below hb)
          clear HT
          have HT := HT'
          clear HT'
          clear hb
          go_wp2_with fail
          clear hY' hBt BY
          obtain ⟨Y, rfl⟩ : ∃ y, y = Y' := ⟨_, rfl⟩
          have BY := BY'
          clear BY'
          refine planPost_mk ⟨⟨Y, BY.out⟩, rfl⟩ ?_
          rw [wpPlanN_one]
          simp only [nth_zero, nth_succ]
          obtain ⟨Z, STL, rZ, hgZ⟩ := store_logD (v := .slice ra ts.length cc) (a := ta) (q := tq) RL.out rfl rfl
          rw [HLC.out] at STL
          have BZ : Hid (Below x3.heap.size x3 Z) := BY.out.grown hgZ BY.out.size (fun j e => by cases e; exact HBT.out)
          have TZ := Lib.hid (HT.out.grownC RL.out (by decide) (by decide) hgZ)
          have RZ := Lib.hid rZ
          clear hgZ rZ HT BY RL HRP
          go_wp2_with fail
          refine planPost_mk ⟨⟨Z, BZ.out⟩, rfl⟩ ?_
          rw [wpPlanN_leaf]
          simp only [List.drop_succ_cons, List.drop_zero]
          clear STL
          have R4 := Lib.hid (R3.out.below BZ.out)
          have e0 : ∀ z : Ext Z, z.1.cell? ⟨Bt, 0, none⟩ = some (.slice ra ts.length cc) := fun z => (RZ.out.below z.2).cell 0 _ rfl
          have e1 : ∀ z : Ext Z, z.1.cell? ⟨Bt, 1, none⟩ = some (.int .i64 (ta : Int)) := fun z => (RZ.out.below z.2).cell 1 _ rfl
          have e2 : ∀ z : Ext Z, z.1.cell? ⟨Bt, 2, none⟩ = some (.int .u32 tq) := fun z => (RZ.out.below z.2).cell 2 _ rfl
          have eg : ∀ z : Ext Z, (loadVar 23 ⟨B4, 1, none⟩).run Tryz.prog z.1 = .ok (.agg x.g.v) z.1 := fun z => (R4.out.below z.2).geoAt (g := x.g) (pre := [.int .u32 x.gen]) (post := [.int .i64 x.a, .int .u32 x.q]) rfl
          have e5 : ∀ z : Ext Z, z.1.cell? ⟨B4, 5, none⟩ = some (.int .i64 gr) := fun z => by rw [← HGR.out]; exact (R4.out.below z.2).cell 5 _ rfl
          have es : ∀ z : Ext Z, (loadVar 105 ⟨B4, 0, none⟩).run Tryz.prog z.1 = .ok (.agg sc) z.1 := fun z => by rw [← HSC.out]; exact (R4.out.below z.2).sup
          have HZ3 : Hid (Below w.heap.size w Z) := K3.out.trans (BZ.out.mono K3.out.size)
          go_wp2_with fail
          refine region_planN (fun x => ∃ y : Ext Z, x = y.1) 26 (.takes [0, 1, 2, 3, 5, 6, 9, 10, 11, 12, 13, 14, 15, 16, 17, 18, 19, 20, 21] (.one 4 (.one 7 (.take 8 (.one 22 (.take 23 (.take 24 (.one 25 .leaf)))))))) hmx (by kernel_rfl) ⟨⟨Z.drew, (Below.refl _ Z).drew⟩, rfl⟩ ?_
          repeat (rw [wpPlanN_takes_cons]; simp only [nth_zero, nth_succ]; go_big_quiet_step (fail); refine wpQuiet_nil ?_)
          rw [wpPlanN_takes_nil, wpPlanN_one]
          simp only [nth_zero, nth_succ]
          clear e0 e1 e2 eg e5 es
          obtain ⟨V, hV⟩ : ∃ X, Z.drew = X := ⟨_, rfl⟩
          have BV : Hid (Below Z.heap.size Z V) := by show Below _ _ _; rw [← hV]; exact (Below.refl _ Z).drew
          try rw [hV]
          clear hV
          have HRPL := Lib.hid (mvReplayed V (HPG.out.below (BZ.out.trans (BV.out.mono BZ.out.size))) (by intro e; have h1 := HML.out; have h2 := HNT2.out.p1; rw [e] at h1; simp at h1; omega) (TZ.out.below BV.out) HW1.out HW2.out (by omega))
          obtain ⟨FL, hFL⟩ : ∃ l, (layTs hm ts).flatten = l := ⟨_, rfl⟩
          have HFLE := Lib.hid hFL
          have HFL := Lib.hid HFL.out
          rw [hFL] at HRPL HFL
          obtain ⟨fl, hfl⟩ : ∃ n, FL.length = n := ⟨_, rfl⟩
          have HFLN := Lib.hid hfl
          rw [hfl] at HRPL HFL
          clear hFL hfl
          go_wp2_with fail
          go_at_call 81
          refine HRPL.out.mono ?_
          rintro e V1 ⟨v', rfl, hO, hb⟩
          have h0fl : 0 < fl := by have h1 := HFL.out; have h2 := HNT2.out.p1; omega
          obtain ⟨Bb, cb, rfl, hBbN, hcb, hBbl, hrg⟩ := own_row hO h0fl
          have hcur : cb ≤ maxLen ∧ ∃ cur, V1.heap[Bb]? = some (.cells cur 5 (0, 0)) := by
            rcases hO.2 with ⟨h', _⟩ | ⟨g', c', cur, e, h1, h2, h3, h4, _⟩
            · cases h'
            · cases e; exact ⟨h4, cur, h2⟩
          have BV1 : Hid (Below Z.heap.size Z V1) := BV.out.trans (hb.mono BV.out.size)
          have HBB : Hid (V.heap.size ≤ Bb ∧ fl ≤ cb ∧ Bb < V1.heap.size ∧ V1.rangeAt Bb 0 (u8s FL) ∧ cb ≤ maxLen ∧ ∃ cur, V1.heap[Bb]? = some (.cells cur 5 (0, 0))) := ⟨hBbN, hcb, hBbl, hrg, hcur.1, hcur.2⟩
          clear hO hb h0fl hBbN hBbl hrg hcur HRPL
          go_wp2_with fail
          refine planPost_mk ⟨⟨V1, BV1.out⟩, rfl⟩ ?_
          rw [wpPlanN_one]
          simp only [nth_zero, nth_succ]
          go_wp2_with fail
          go_at_call 47
          refine (gmBytes x.g HGI.out V1).mono ?_
          obtain ⟨bn, hbn⟩ : ∃ n, x.g.bts.toNat = n := ⟨_, rfl⟩
          have hbb : x.g.bts = (bn : Int) := by rw [← hbn]; exact HNT2.out.b.symm
          rw [HNB.out, hbb]
          rintro e V2 ⟨rfl, hb⟩
          have BV2 : Hid (Below Z.heap.size Z V2) := BV1.out.trans (hb.mono BV1.out.size)
          have HV12 : Hid (Below V1.heap.size V1 V2) := hb
          have hbf : 0 < bn ∧ bn ≤ fl ∧ bn ≤ 714 := by
            have h1 := HFL.out
            have h2 := HNT2.out.bp
            have h3 := HNT2.out.p1
            have h4 := HNT2.out.b2
            rw [hbn] at h2 h4
            exact ⟨by omega, by omega, h4⟩
          have HBN := Lib.hid hbn
          have HBF := Lib.hid hbf
          have hs1 : (bn : Int) ≤ (cb : Int) := by have := hbf.2.1; omega
          clear hb hbn hbb hbf
          go_wp2_with fail
          refine planPost_mk ⟨⟨V2, BV2.out⟩, rfl⟩ ?_
          rw [wpPlanN_take]
          simp only [nth_zero, nth_succ]
          go_big_quiet_step (fail)
          refine wpQuiet_nil ?_
          clear hs1
          have hus : usedBy ts ≤ 100000 := HW4.out
          have hg0 : 0 ≤ gr ∧ gr ≤ 256 := by have h1 := HNT2.out.c; have h2 := HNT2.out.c2; have h3 := HGR.out; exact ⟨by omega, by omega⟩
          obtain ⟨hg1, hg2⟩ := hg0
          rw [wpPlanN_one]
          simp only [nth_zero, nth_succ]
          go_wp2_with fail
          go_at_call 82
          refine (mvSectors _ ts V2 (TZ.out.below BV2.out) (by omega)).mono ?_
          rintro e V' ⟨rfl, hv'⟩
          obtain rfl := hv'.symm
          clear hv'
          obtain ⟨us, husn⟩ : ∃ n, usedBy ts = n := ⟨_, rfl⟩
          have HUS := Lib.hid husn
          rw [husn] at hus
          rw [husn]
          clear husn
          go_wp2_with fail
          refine planPost_mk ⟨⟨V2, BV2.out⟩, rfl⟩ ?_
          rw [wpPlanN_take]
          simp only [nth_zero, nth_succ]
          go_big_quiet_step (fail)
          refine wpQuiet_nil ?_
          rw [wpPlanN_take]
          simp only [nth_zero, nth_succ]
          refine wpQuiet_struct_run _ _ rfl rfl [(0, .pointer (some ⟨rb, 0, none⟩)), (1, .slice (some ⟨Bb, 0, none⟩) bn cb), (2, .slice (some ⟨gh, 0, none⟩) P ch), (3, .agg sc), (4, .int .i64 (j : Int)), (5, .agg #[.int .i64 (ta : Int), .int .u32 tq]), (6, .int .i64 (gr - (us : Int)))] (.agg (mtC rb (.slice (some ⟨Bb, 0, none⟩) bn cb) (.slice (some ⟨gh, 0, none⟩) P ch) x.gen x.g x.a x.q j ta tq (gr - (us : Int))).toArray) rfl (fun z _ => by rw [← HSC.out]; exact build_mt z rb _ _ _ _ _ _ _ _ _ _ _ _ _ _) ?_
          refine wpQuiet_nil ?_
          rw [wpPlanN_one]
          simp only [nth_zero, nth_succ]
          obtain ⟨mc, hmc⟩ : ∃ c, (mtC rb (.slice (some ⟨Bb, 0, none⟩) bn cb) (.slice (some ⟨gh, 0, none⟩) P ch) x.gen x.g x.a x.q j ta tq (gr - (us : Int))).toArray = c := ⟨_, rfl⟩
          rw [hmc]
          obtain ⟨F, hF⟩ : ∃ y, V2.alloc (.cells mc 120) = y := ⟨_, rfl⟩
          obtain ⟨m, hm'⟩ : ∃ b, V2.heap.size = b := ⟨_, rfl⟩
          have BF : Hid (Below V2.heap.size V2 F) := by show Below _ _ _; rw [← hF]; exact below_new V2 _
          have BZF : Hid (Below Z.heap.size Z F) := BV2.out.trans (BF.out.mono BV2.out.size)
          have RF : Hid (RowC F m 120 (mtC rb (.slice (some ⟨Bb, 0, none⟩) bn cb) (.slice (some ⟨gh, 0, none⟩) P ch) x.gen x.g x.a x.q j ta tq (gr - (us : Int)))) := by show RowC _ _ _ _; rw [← hF, ← hm', ← hmc]; exact RowC.new V2 _ _
          have HMM : Hid (V2.heap.size = m) := hm'
          go_wp2_with fail
          clear hF hm' hmc
          refine planPost_mk ⟨⟨F, BZF.out⟩, rfl⟩ ?_
          rw [wpPlanN_leaf]
          simp only [List.drop_succ_cons, List.drop_zero]
          go_wp2_with fail
          refine bodyPost_ret (results_tmp2 rfl _ _ _) rfl ?_
          have hbl : (List.take x.g.bts.toNat (layTs hm ts).flatten).length = bn := by rw [HFLE.out, HBN.out, List.length_take, HFLN.out]; have := HBF.out.2.1; omega
          have hml : hm.length = P := HML.out.trans HP.out
          have h1 : w.heap.size ≤ Z.heap.size := HZ3.out.size
          have h2 : Z.heap.size ≤ V.heap.size := BV.out.size
          have h3 : V1.heap.size ≤ V2.heap.size := HV12.out.size
          have h4 : V.heap.size ≤ V1.heap.size := by have := HBB.out.1; have := HBB.out.2.2.1; omega
          have h5 := HMM.out
          have hghl : gh < x3.heap.size := HPG.out.lt
          have h6 : x3.heap.size ≤ Z.heap.size := BZ.out.size
          have hBB := HBB.out
          have hgF : F.heap[gh]? = x3.heap[gh]? := (BF.out.block gh (by omega)).trans ((BV2.out.block gh (by omega)).trans (BZ.out.block gh hghl))
          have hbF : F.heap[Bb]? = V1.heap[Bb]? := (BF.out.block Bb (by omega)).trans (HV12.out.block Bb (by omega))
          refine ⟨.inl ⟨_, m, fun k => k = m ∨ k = Bb ∨ k = gh, HOPN.out, rfl, ⟨Bb, cb, gh, ch, x.a, x.q, ?_, rfl⟩, fun k hk => ?_⟩, HZ3.out.trans (BZF.out.mono h1)⟩
          · refine ⟨?_, by omega, by omega, by omega, by show 0 < (List.take x.g.bts.toNat (layTs hm ts).flatten).length; rw [hbl]; exact HBF.out.1, by show 0 < hm.length; rw [hml]; have h7 := HNT2.out.p1; have h8 := HP.out; omega, by show (List.take x.g.bts.toNat (layTs hm ts).flatten).length ≤ cb ∧ cb ≤ maxLen; rw [hbl]; exact ⟨by have := HBF.out.2.1; omega, hBB.2.2.2.2.1⟩, ?_, ?_, ⟨cur, _, hgF.trans HCU.out⟩, rangeAt_same HPG.out.at_ hgF⟩
            · show RowC F m _ (mtC rb (.slice (some ⟨Bb, 0, none⟩) (List.take x.g.bts.toNat (layTs hm ts).flatten).length cb) (.slice (some ⟨gh, 0, none⟩) hm.length ch) x.gen x.g x.a x.q j ta tq (x.g.r - ((usedBy ts : Nat) : Int)))
              rw [hbl, hml, HGR.out, HUS.out]
              exact RF.out
            · obtain ⟨cur', h⟩ := hBB.2.2.2.2.2
              exact ⟨cur', _, hbF.trans h⟩
            · show F.rangeAt Bb 0 (u8s (List.take x.g.bts.toNat (layTs hm ts).flatten))
              rw [HFLE.out]
              refine rangeAt_same (fun i v hi => hBB.2.2.2.1 i v ?_) hbF
              unfold u8s at hi ⊢
              rw [List.map_take, List.getElem?_take] at hi
              split at hi
              · exact hi
              · cases hi
          · have h9 : w.heap.size ≤ gh := HGH.out
            rcases hk with rfl | rfl | rfl
            · omega
            · omega
            · exact h9
        · obtain ⟨Y', hY'⟩ : ∃ y, Y.alloc (.cells #[.slice none 0 0, .int .i64 0, .int .u32 0] 157) = y := ⟨_, rfl⟩
          obtain ⟨Bt, hBt⟩ : ∃ b, Y.heap.size = b := ⟨_, rfl⟩
          have RL : Hid (RowC Y' Bt 157 [.slice none 0 0, .int .i64 0, .int .u32 0]) := by show RowC _ _ _ _; rw [← hY', ← hBt]; exact RowC.new Y _ _
          have hb : Below Y.heap.size Y Y' := by rw [← hY']; exact below_new Y _
          have BY' : Hid (Below x3.heap.size x3 Y') := BY.out.trans (hb.mono BY.out.size)
          have HBT : Hid (x3.heap.size ≤ Bt) := by show _ ≤ _; rw [← hBt]; exact BY.out.size
          clear hb
          go_wp2_with fail
          clear hY' hBt BY
          obtain ⟨Y, rfl⟩ : ∃ y, y = Y' := ⟨_, rfl⟩
          have BY := BY'
          clear BY'
          refine planPost_mk ⟨⟨Y, BY.out⟩, rfl⟩ ?_
          rw [wpPlanN_one]
          simp only [nth_zero, nth_succ]
          go_wp2_with fail
          go_at_call 80
          refine (HRP.out Y (K3.out.trans (BY.out.mono K3.out.size))).mono ?_
          rintro e Y' ⟨⟨vt, rfl, ht⟩, hb⟩
          obtain ⟨ra, cc, rfl, -⟩ := ht.at
          have BY' : Hid (Below x3.heap.size x3 Y') := BY.out.trans (hb.mono BY.out.size)
          have RL' := Lib.hid (RL.out.below hb)
          clear RL
          have RL := RL'
          clear RL'
          have HT := Lib.hid ht
          obtain ⟨lc, hlc⟩ : ∃ c, (logD (.slice ra ts.length cc) ta tq).toArray = c := ⟨_, rfl⟩
          have HLC := Lib.hid hlc
          rw [hlc]
          clear hb BY ht hlc
          obtain ⟨Y, rfl⟩ : ∃ y, y = Y' := ⟨_, rfl⟩
          have BY := BY'
          clear BY'
          go_wp2_with fail
          refine planPost_mk ⟨⟨Y, BY.out⟩, rfl⟩ ?_
          repeat (rw [wpPlanN_takes_cons]; simp only [nth_zero, nth_succ]; go_big_quiet_step (fail); refine wpQuiet_nil ?_)
          rw [wpPlanN_takes_nil, wpPlanN_one]
          simp only [nth_zero, nth_succ]
          obtain ⟨Z, STL, rZ, hgZ⟩ := store_logD (v := .slice ra ts.length cc) (a := ta) (q := tq) RL.out rfl rfl
          rw [HLC.out] at STL
          have BZ : Hid (Below x3.heap.size x3 Z) := BY.out.grown hgZ BY.out.size (fun j e => by cases e; exact HBT.out)
          have TZ := Lib.hid (HT.out.grownC RL.out (by decide) (by decide) hgZ)
          have RZ := Lib.hid rZ
          clear hgZ rZ HT BY RL HRP
          go_wp2_with fail
          refine planPost_mk ⟨⟨Z, BZ.out⟩, rfl⟩ ?_
          rw [wpPlanN_leaf]
          simp only [List.drop_succ_cons, List.drop_zero]
          clear STL
          have R4 := Lib.hid (R3.out.below BZ.out)
          have e0 : ∀ z : Ext Z, z.1.cell? ⟨Bt, 0, none⟩ = some (.slice ra ts.length cc) := fun z => (RZ.out.below z.2).cell 0 _ rfl
          have e1 : ∀ z : Ext Z, z.1.cell? ⟨Bt, 1, none⟩ = some (.int .i64 (ta : Int)) := fun z => (RZ.out.below z.2).cell 1 _ rfl
          have e2 : ∀ z : Ext Z, z.1.cell? ⟨Bt, 2, none⟩ = some (.int .u32 tq) := fun z => (RZ.out.below z.2).cell 2 _ rfl
          have eg : ∀ z : Ext Z, (loadVar 23 ⟨B4, 1, none⟩).run Tryz.prog z.1 = .ok (.agg x.g.v) z.1 := fun z => (R4.out.below z.2).geoAt (g := x.g) (pre := [.int .u32 x.gen]) (post := [.int .i64 x.a, .int .u32 x.q]) rfl
          have e5 : ∀ z : Ext Z, z.1.cell? ⟨B4, 5, none⟩ = some (.int .i64 gr) := fun z => by rw [← HGR.out]; exact (R4.out.below z.2).cell 5 _ rfl
          have es : ∀ z : Ext Z, (loadVar 105 ⟨B4, 0, none⟩).run Tryz.prog z.1 = .ok (.agg sc) z.1 := fun z => by rw [← HSC.out]; exact (R4.out.below z.2).sup
          have HZ3 : Hid (Below w.heap.size w Z) := K3.out.trans (BZ.out.mono K3.out.size)
          go_wp2_with fail
          refine region_planN (fun x => ∃ y : Ext Z, x = y.1) 26 (.takes [0, 1, 2, 3, 5, 6, 9, 10, 11, 12, 13, 14, 15, 16, 17, 18, 19, 20, 21] (.one 4 (.one 7 (.take 8 (.one 22 (.take 23 (.take 24 (.one 25 .leaf)))))))) hmx (by kernel_rfl) ⟨⟨Z.drew, (Below.refl _ Z).drew⟩, rfl⟩ ?_
          repeat (rw [wpPlanN_takes_cons]; simp only [nth_zero, nth_succ]; go_big_quiet_step (fail); refine wpQuiet_nil ?_)
          rw [wpPlanN_takes_nil, wpPlanN_one]
          simp only [nth_zero, nth_succ]
          clear e0 e1 e2 eg e5 es
          obtain ⟨V, hV⟩ : ∃ X, Z.drew = X := ⟨_, rfl⟩
          have BV : Hid (Below Z.heap.size Z V) := by show Below _ _ _; rw [← hV]; exact (Below.refl _ Z).drew
          try rw [hV]
          clear hV
          have HRPL := Lib.hid (mvReplayed V (HPG.out.below (BZ.out.trans (BV.out.mono BZ.out.size))) (by intro e; have h1 := HML.out; have h2 := HNT2.out.p1; rw [e] at h1; simp at h1; omega) (TZ.out.below BV.out) HW1.out HW2.out (by omega))
          obtain ⟨FL, hFL⟩ : ∃ l, (layTs hm ts).flatten = l := ⟨_, rfl⟩
          have HFLE := Lib.hid hFL
          have HFL := Lib.hid HFL.out
          rw [hFL] at HRPL HFL
          obtain ⟨fl, hfl⟩ : ∃ n, FL.length = n := ⟨_, rfl⟩
          have HFLN := Lib.hid hfl
          rw [hfl] at HRPL HFL
          clear hFL hfl
          go_wp2_with fail
          go_at_call 81
          refine HRPL.out.mono ?_
          rintro e V1 ⟨v', rfl, hO, hb⟩
          have h0fl : 0 < fl := by have h1 := HFL.out; have h2 := HNT2.out.p1; omega
          obtain ⟨Bb, cb, rfl, hBbN, hcb, hBbl, hrg⟩ := own_row hO h0fl
          have hcur : cb ≤ maxLen ∧ ∃ cur, V1.heap[Bb]? = some (.cells cur 5 (0, 0)) := by
            rcases hO.2 with ⟨h', _⟩ | ⟨g', c', cur, e, h1, h2, h3, h4, _⟩
            · cases h'
            · cases e; exact ⟨h4, cur, h2⟩
          have BV1 : Hid (Below Z.heap.size Z V1) := BV.out.trans (hb.mono BV.out.size)
          have HBB : Hid (V.heap.size ≤ Bb ∧ fl ≤ cb ∧ Bb < V1.heap.size ∧ V1.rangeAt Bb 0 (u8s FL) ∧ cb ≤ maxLen ∧ ∃ cur, V1.heap[Bb]? = some (.cells cur 5 (0, 0))) := ⟨hBbN, hcb, hBbl, hrg, hcur.1, hcur.2⟩
          clear hO hb h0fl hBbN hBbl hrg hcur HRPL
          go_wp2_with fail
          refine planPost_mk ⟨⟨V1, BV1.out⟩, rfl⟩ ?_
          rw [wpPlanN_one]
          simp only [nth_zero, nth_succ]
          go_wp2_with fail
          go_at_call 47
          refine (gmBytes x.g HGI.out V1).mono ?_
          obtain ⟨bn, hbn⟩ : ∃ n, x.g.bts.toNat = n := ⟨_, rfl⟩
          have hbb : x.g.bts = (bn : Int) := by rw [← hbn]; exact HNT2.out.b.symm
          rw [HNB.out, hbb]
          rintro e V2 ⟨rfl, hb⟩
          have BV2 : Hid (Below Z.heap.size Z V2) := BV1.out.trans (hb.mono BV1.out.size)
          have HV12 : Hid (Below V1.heap.size V1 V2) := hb
          have hbf : 0 < bn ∧ bn ≤ fl ∧ bn ≤ 714 := by
            have h1 := HFL.out
            have h2 := HNT2.out.bp
            have h3 := HNT2.out.p1
            have h4 := HNT2.out.b2
            rw [hbn] at h2 h4
            exact ⟨by omega, by omega, h4⟩
          have HBN := Lib.hid hbn
          have HBF := Lib.hid hbf
          have hs1 : (bn : Int) ≤ (cb : Int) := by have := hbf.2.1; omega
          clear hb hbn hbb hbf
          go_wp2_with fail
          refine planPost_mk ⟨⟨V2, BV2.out⟩, rfl⟩ ?_
          rw [wpPlanN_take]
          simp only [nth_zero, nth_succ]
          go_big_quiet_step (fail)
          refine wpQuiet_nil ?_
          clear hs1
          have hus : usedBy ts ≤ 100000 := HW4.out
          have hg0 : 0 ≤ gr ∧ gr ≤ 256 := by have h1 := HNT2.out.c; have h2 := HNT2.out.c2; have h3 := HGR.out; exact ⟨by omega, by omega⟩
          obtain ⟨hg1, hg2⟩ := hg0
          rw [wpPlanN_one]
          simp only [nth_zero, nth_succ]
          go_wp2_with fail
          go_at_call 82
          refine (mvSectors _ ts V2 (TZ.out.below BV2.out) (by omega)).mono ?_
          rintro e V' ⟨rfl, hv'⟩
          obtain rfl := hv'.symm
          clear hv'
          obtain ⟨us, husn⟩ : ∃ n, usedBy ts = n := ⟨_, rfl⟩
          have HUS := Lib.hid husn
          rw [husn] at hus
          rw [husn]
          clear husn
          go_wp2_with fail
          refine planPost_mk ⟨⟨V2, BV2.out⟩, rfl⟩ ?_
          rw [wpPlanN_take]
          simp only [nth_zero, nth_succ]
          go_big_quiet_step (fail)
          refine wpQuiet_nil ?_
          rw [wpPlanN_take]
          simp only [nth_zero, nth_succ]
          refine wpQuiet_struct_run _ _ rfl rfl [(0, .pointer (some ⟨rb, 0, none⟩)), (1, .slice (some ⟨Bb, 0, none⟩) bn cb), (2, .slice (some ⟨gh, 0, none⟩) P ch), (3, .agg sc), (4, .int .i64 (j : Int)), (5, .agg #[.int .i64 (ta : Int), .int .u32 tq]), (6, .int .i64 (gr - (us : Int)))] (.agg (mtC rb (.slice (some ⟨Bb, 0, none⟩) bn cb) (.slice (some ⟨gh, 0, none⟩) P ch) x.gen x.g x.a x.q j ta tq (gr - (us : Int))).toArray) rfl (fun z _ => by rw [← HSC.out]; exact build_mt z rb _ _ _ _ _ _ _ _ _ _ _ _ _ _) ?_
          refine wpQuiet_nil ?_
          rw [wpPlanN_one]
          simp only [nth_zero, nth_succ]
          obtain ⟨mc, hmc⟩ : ∃ c, (mtC rb (.slice (some ⟨Bb, 0, none⟩) bn cb) (.slice (some ⟨gh, 0, none⟩) P ch) x.gen x.g x.a x.q j ta tq (gr - (us : Int))).toArray = c := ⟨_, rfl⟩
          rw [hmc]
          obtain ⟨F, hF⟩ : ∃ y, V2.alloc (.cells mc 120) = y := ⟨_, rfl⟩
          obtain ⟨m, hm'⟩ : ∃ b, V2.heap.size = b := ⟨_, rfl⟩
          have BF : Hid (Below V2.heap.size V2 F) := by show Below _ _ _; rw [← hF]; exact below_new V2 _
          have BZF : Hid (Below Z.heap.size Z F) := BV2.out.trans (BF.out.mono BV2.out.size)
          have RF : Hid (RowC F m 120 (mtC rb (.slice (some ⟨Bb, 0, none⟩) bn cb) (.slice (some ⟨gh, 0, none⟩) P ch) x.gen x.g x.a x.q j ta tq (gr - (us : Int)))) := by show RowC _ _ _ _; rw [← hF, ← hm', ← hmc]; exact RowC.new V2 _ _
          have HMM : Hid (V2.heap.size = m) := hm'
          go_wp2_with fail
          clear hF hm' hmc
          refine planPost_mk ⟨⟨F, BZF.out⟩, rfl⟩ ?_
          rw [wpPlanN_leaf]
          simp only [List.drop_succ_cons, List.drop_zero]
          go_wp2_with fail
          refine bodyPost_ret (results_tmp2 rfl _ _ _) rfl ?_
          have hbl : (List.take x.g.bts.toNat (layTs hm ts).flatten).length = bn := by rw [HFLE.out, HBN.out, List.length_take, HFLN.out]; have := HBF.out.2.1; omega
          have hml : hm.length = P := HML.out.trans HP.out
          have h1 : w.heap.size ≤ Z.heap.size := HZ3.out.size
          have h2 : Z.heap.size ≤ V.heap.size := BV.out.size
          have h3 : V1.heap.size ≤ V2.heap.size := HV12.out.size
          have h4 : V.heap.size ≤ V1.heap.size := by have := HBB.out.1; have := HBB.out.2.2.1; omega
          have h5 := HMM.out
          have hghl : gh < x3.heap.size := HPG.out.lt
          have h6 : x3.heap.size ≤ Z.heap.size := BZ.out.size
          have hBB := HBB.out
          have hgF : F.heap[gh]? = x3.heap[gh]? := (BF.out.block gh (by omega)).trans ((BV2.out.block gh (by omega)).trans (BZ.out.block gh hghl))
          have hbF : F.heap[Bb]? = V1.heap[Bb]? := (BF.out.block Bb (by omega)).trans (HV12.out.block Bb (by omega))
          refine ⟨.inl ⟨_, m, fun k => k = m ∨ k = Bb ∨ k = gh, HOPN.out, rfl, ⟨Bb, cb, gh, ch, x.a, x.q, ?_, rfl⟩, fun k hk => ?_⟩, HZ3.out.trans (BZF.out.mono h1)⟩
          · refine ⟨?_, by omega, by omega, by omega, by show 0 < (List.take x.g.bts.toNat (layTs hm ts).flatten).length; rw [hbl]; exact HBF.out.1, by show 0 < hm.length; rw [hml]; have h7 := HNT2.out.p1; have h8 := HP.out; omega, by show (List.take x.g.bts.toNat (layTs hm ts).flatten).length ≤ cb ∧ cb ≤ maxLen; rw [hbl]; exact ⟨by have := HBF.out.2.1; omega, hBB.2.2.2.2.1⟩, ?_, ?_, ⟨cur, _, hgF.trans HCU.out⟩, rangeAt_same HPG.out.at_ hgF⟩
            · show RowC F m _ (mtC rb (.slice (some ⟨Bb, 0, none⟩) (List.take x.g.bts.toNat (layTs hm ts).flatten).length cb) (.slice (some ⟨gh, 0, none⟩) hm.length ch) x.gen x.g x.a x.q j ta tq (x.g.r - ((usedBy ts : Nat) : Int)))
              rw [hbl, hml, HGR.out, HUS.out]
              exact RF.out
            · obtain ⟨cur', h⟩ := hBB.2.2.2.2.2
              exact ⟨cur', _, hbF.trans h⟩
            · show F.rangeAt Bb 0 (u8s (List.take x.g.bts.toNat (layTs hm ts).flatten))
              rw [HFLE.out]
              refine rangeAt_same (fun i v hi => hBB.2.2.2.1 i v ?_) hbF
              unfold u8s at hi ⊢
              rw [List.map_take, List.getElem?_take] at hi
              split at hi
              · exact hi
              · cases hi
          · have h9 : w.heap.size ≤ gh := HGH.out
            rcases hk with rfl | rfl | rfl
            · omega
            · omega
            · exact h9
      · obtain ⟨Y', hY'⟩ : ∃ y, Y.alloc (.cells #[.slice none 0 0, .int .i64 0, .int .u32 0] 157) = y := ⟨_, rfl⟩
        obtain ⟨Bt, hBt⟩ : ∃ b, Y.heap.size = b := ⟨_, rfl⟩
        have RL : Hid (RowC Y' Bt 157 [.slice none 0 0, .int .i64 0, .int .u32 0]) := by show RowC _ _ _ _; rw [← hY', ← hBt]; exact RowC.new Y _ _
        have hb : Below Y.heap.size Y Y' := by rw [← hY']; exact below_new Y _
        have BY' : Hid (Below x3.heap.size x3 Y') := BY.out.trans (hb.mono BY.out.size)
        have HBT : Hid (x3.heap.size ≤ Bt) := by show _ ≤ _; rw [← hBt]; exact BY.out.size
        clear hb
        go_wp2_with fail
        clear hY' hBt BY
        obtain ⟨Y, rfl⟩ : ∃ y, y = Y' := ⟨_, rfl⟩
        have BY := BY'
        clear BY'
        refine planPost_mk ⟨⟨Y, BY.out⟩, rfl⟩ ?_
        rw [wpPlanN_one]
        simp only [nth_zero, nth_succ]
        go_wp2_with fail
        go_at_call 50
        refine (gmRing x.g HGI.out Y).mono ?_
        rw [HNR.out]
        rintro e Y' ⟨rfl, hb⟩
        have BY' : Hid (Below x3.heap.size x3 Y') := BY.out.trans (hb.mono BY.out.size)
        have RL' := Lib.hid (RL.out.below hb)
        clear RL
        have RL := RL'
        clear RL'
        clear hb BY
        obtain ⟨Y, rfl⟩ : ∃ y, y = Y' := ⟨_, rfl⟩
        have BY := BY'
        clear BY'
        go_wp2_with fail
        refine planPost_mk ⟨⟨Y, BY.out⟩, rfl⟩ ?_
        rw [wpPlanN_one]
        simp only [nth_zero, nth_succ]
        go_wp2_with fail
        go_at_call 80
        refine (HRP.out Y (K3.out.trans (BY.out.mono K3.out.size))).mono ?_
        rintro e Y' ⟨⟨vt, rfl, ht⟩, hb⟩
        obtain ⟨ra, cc, rfl, -⟩ := ht.at
        have BY' : Hid (Below x3.heap.size x3 Y') := BY.out.trans (hb.mono BY.out.size)
        have RL' := Lib.hid (RL.out.below hb)
        clear RL
        have RL := RL'
        clear RL'
        have HT := Lib.hid ht
        obtain ⟨lc, hlc⟩ : ∃ c, (logD (.slice ra ts.length cc) ta tq).toArray = c := ⟨_, rfl⟩
        have HLC := Lib.hid hlc
        rw [hlc]
        clear hb BY ht hlc
        obtain ⟨Y, rfl⟩ : ∃ y, y = Y' := ⟨_, rfl⟩
        have BY := BY'
        clear BY'
        go_wp2_with fail
        refine planPost_mk ⟨⟨Y, BY.out⟩, rfl⟩ ?_
        repeat (rw [wpPlanN_takes_cons]; simp only [nth_zero, nth_succ]; go_big_quiet_step (fail); refine wpQuiet_nil ?_)
        rw [wpPlanN_takes_nil, wpPlanN_one]
        simp only [nth_zero, nth_succ]
        obtain ⟨Z, STL, rZ, hgZ⟩ := store_logD (v := .slice ra ts.length cc) (a := ta) (q := tq) RL.out rfl rfl
        rw [HLC.out] at STL
        have BZ : Hid (Below x3.heap.size x3 Z) := BY.out.grown hgZ BY.out.size (fun j e => by cases e; exact HBT.out)
        have TZ := Lib.hid (HT.out.grownC RL.out (by decide) (by decide) hgZ)
        have RZ := Lib.hid rZ
        clear hgZ rZ HT BY RL HRP
        go_wp2_with fail
        refine planPost_mk ⟨⟨Z, BZ.out⟩, rfl⟩ ?_
        rw [wpPlanN_leaf]
        simp only [List.drop_succ_cons, List.drop_zero]
        clear STL
        have R4 := Lib.hid (R3.out.below BZ.out)
        have e0 : ∀ z : Ext Z, z.1.cell? ⟨Bt, 0, none⟩ = some (.slice ra ts.length cc) := fun z => (RZ.out.below z.2).cell 0 _ rfl
        have e1 : ∀ z : Ext Z, z.1.cell? ⟨Bt, 1, none⟩ = some (.int .i64 (ta : Int)) := fun z => (RZ.out.below z.2).cell 1 _ rfl
        have e2 : ∀ z : Ext Z, z.1.cell? ⟨Bt, 2, none⟩ = some (.int .u32 tq) := fun z => (RZ.out.below z.2).cell 2 _ rfl
        have eg : ∀ z : Ext Z, (loadVar 23 ⟨B4, 1, none⟩).run Tryz.prog z.1 = .ok (.agg x.g.v) z.1 := fun z => (R4.out.below z.2).geoAt (g := x.g) (pre := [.int .u32 x.gen]) (post := [.int .i64 x.a, .int .u32 x.q]) rfl
        have e5 : ∀ z : Ext Z, z.1.cell? ⟨B4, 5, none⟩ = some (.int .i64 gr) := fun z => by rw [← HGR.out]; exact (R4.out.below z.2).cell 5 _ rfl
        have es : ∀ z : Ext Z, (loadVar 105 ⟨B4, 0, none⟩).run Tryz.prog z.1 = .ok (.agg sc) z.1 := fun z => by rw [← HSC.out]; exact (R4.out.below z.2).sup
        have HZ3 : Hid (Below w.heap.size w Z) := K3.out.trans (BZ.out.mono K3.out.size)
        go_wp2_with fail
        refine region_planN (fun x => ∃ y : Ext Z, x = y.1) 26 (.takes [0, 1, 2, 3, 5, 6, 9, 10, 11, 12, 13, 14, 15, 16, 17, 18, 19, 20, 21] (.one 4 (.one 7 (.take 8 (.one 22 (.take 23 (.take 24 (.one 25 .leaf)))))))) hmx (by kernel_rfl) ⟨⟨Z.drew, (Below.refl _ Z).drew⟩, rfl⟩ ?_
        repeat (rw [wpPlanN_takes_cons]; simp only [nth_zero, nth_succ]; go_big_quiet_step (fail); refine wpQuiet_nil ?_)
        rw [wpPlanN_takes_nil, wpPlanN_one]
        simp only [nth_zero, nth_succ]
        clear e0 e1 e2 eg e5 es
        obtain ⟨V, hV⟩ : ∃ X, Z.drew = X := ⟨_, rfl⟩
        have BV : Hid (Below Z.heap.size Z V) := by show Below _ _ _; rw [← hV]; exact (Below.refl _ Z).drew
        try rw [hV]
        clear hV
        have HRPL := Lib.hid (mvReplayed V (HPG.out.below (BZ.out.trans (BV.out.mono BZ.out.size))) (by intro e; have h1 := HML.out; have h2 := HNT2.out.p1; rw [e] at h1; simp at h1; omega) (TZ.out.below BV.out) HW1.out HW2.out (by omega))
        obtain ⟨FL, hFL⟩ : ∃ l, (layTs hm ts).flatten = l := ⟨_, rfl⟩
        have HFLE := Lib.hid hFL
        have HFL := Lib.hid HFL.out
        rw [hFL] at HRPL HFL
        obtain ⟨fl, hfl⟩ : ∃ n, FL.length = n := ⟨_, rfl⟩
        have HFLN := Lib.hid hfl
        rw [hfl] at HRPL HFL
        clear hFL hfl
        go_wp2_with fail
        go_at_call 81
        refine HRPL.out.mono ?_
        rintro e V1 ⟨v', rfl, hO, hb⟩
        have h0fl : 0 < fl := by have h1 := HFL.out; have h2 := HNT2.out.p1; omega
        obtain ⟨Bb, cb, rfl, hBbN, hcb, hBbl, hrg⟩ := own_row hO h0fl
        have hcur : cb ≤ maxLen ∧ ∃ cur, V1.heap[Bb]? = some (.cells cur 5 (0, 0)) := by
          rcases hO.2 with ⟨h', _⟩ | ⟨g', c', cur, e, h1, h2, h3, h4, _⟩
          · cases h'
          · cases e; exact ⟨h4, cur, h2⟩
        have BV1 : Hid (Below Z.heap.size Z V1) := BV.out.trans (hb.mono BV.out.size)
        have HBB : Hid (V.heap.size ≤ Bb ∧ fl ≤ cb ∧ Bb < V1.heap.size ∧ V1.rangeAt Bb 0 (u8s FL) ∧ cb ≤ maxLen ∧ ∃ cur, V1.heap[Bb]? = some (.cells cur 5 (0, 0))) := ⟨hBbN, hcb, hBbl, hrg, hcur.1, hcur.2⟩
        clear hO hb h0fl hBbN hBbl hrg hcur HRPL
        go_wp2_with fail
        refine planPost_mk ⟨⟨V1, BV1.out⟩, rfl⟩ ?_
        rw [wpPlanN_one]
        simp only [nth_zero, nth_succ]
        go_wp2_with fail
        go_at_call 47
        refine (gmBytes x.g HGI.out V1).mono ?_
        obtain ⟨bn, hbn⟩ : ∃ n, x.g.bts.toNat = n := ⟨_, rfl⟩
        have hbb : x.g.bts = (bn : Int) := by rw [← hbn]; exact HNT2.out.b.symm
        rw [HNB.out, hbb]
        rintro e V2 ⟨rfl, hb⟩
        have BV2 : Hid (Below Z.heap.size Z V2) := BV1.out.trans (hb.mono BV1.out.size)
        have HV12 : Hid (Below V1.heap.size V1 V2) := hb
        have hbf : 0 < bn ∧ bn ≤ fl ∧ bn ≤ 714 := by
          have h1 := HFL.out
          have h2 := HNT2.out.bp
          have h3 := HNT2.out.p1
          have h4 := HNT2.out.b2
          rw [hbn] at h2 h4
          exact ⟨by omega, by omega, h4⟩
        have HBN := Lib.hid hbn
        have HBF := Lib.hid hbf
        have hs1 : (bn : Int) ≤ (cb : Int) := by have := hbf.2.1; omega
        clear hb hbn hbb hbf
        go_wp2_with fail
        refine planPost_mk ⟨⟨V2, BV2.out⟩, rfl⟩ ?_
        rw [wpPlanN_take]
        simp only [nth_zero, nth_succ]
        go_big_quiet_step (fail)
        refine wpQuiet_nil ?_
        clear hs1
        have hus : usedBy ts ≤ 100000 := HW4.out
        have hg0 : 0 ≤ gr ∧ gr ≤ 256 := by have h1 := HNT2.out.c; have h2 := HNT2.out.c2; have h3 := HGR.out; exact ⟨by omega, by omega⟩
        obtain ⟨hg1, hg2⟩ := hg0
        rw [wpPlanN_one]
        simp only [nth_zero, nth_succ]
        go_wp2_with fail
        go_at_call 82
        refine (mvSectors _ ts V2 (TZ.out.below BV2.out) (by omega)).mono ?_
        rintro e V' ⟨rfl, hv'⟩
        obtain rfl := hv'.symm
        clear hv'
        obtain ⟨us, husn⟩ : ∃ n, usedBy ts = n := ⟨_, rfl⟩
        have HUS := Lib.hid husn
        rw [husn] at hus
        rw [husn]
        clear husn
        go_wp2_with fail
        refine planPost_mk ⟨⟨V2, BV2.out⟩, rfl⟩ ?_
        rw [wpPlanN_take]
        simp only [nth_zero, nth_succ]
        go_big_quiet_step (fail)
        refine wpQuiet_nil ?_
        rw [wpPlanN_take]
        simp only [nth_zero, nth_succ]
        refine wpQuiet_struct_run _ _ rfl rfl [(0, .pointer (some ⟨rb, 0, none⟩)), (1, .slice (some ⟨Bb, 0, none⟩) bn cb), (2, .slice (some ⟨gh, 0, none⟩) P ch), (3, .agg sc), (4, .int .i64 (j : Int)), (5, .agg #[.int .i64 (ta : Int), .int .u32 tq]), (6, .int .i64 (gr - (us : Int)))] (.agg (mtC rb (.slice (some ⟨Bb, 0, none⟩) bn cb) (.slice (some ⟨gh, 0, none⟩) P ch) x.gen x.g x.a x.q j ta tq (gr - (us : Int))).toArray) rfl (fun z _ => by rw [← HSC.out]; exact build_mt z rb _ _ _ _ _ _ _ _ _ _ _ _ _ _) ?_
        refine wpQuiet_nil ?_
        rw [wpPlanN_one]
        simp only [nth_zero, nth_succ]
        obtain ⟨mc, hmc⟩ : ∃ c, (mtC rb (.slice (some ⟨Bb, 0, none⟩) bn cb) (.slice (some ⟨gh, 0, none⟩) P ch) x.gen x.g x.a x.q j ta tq (gr - (us : Int))).toArray = c := ⟨_, rfl⟩
        rw [hmc]
        obtain ⟨F, hF⟩ : ∃ y, V2.alloc (.cells mc 120) = y := ⟨_, rfl⟩
        obtain ⟨m, hm'⟩ : ∃ b, V2.heap.size = b := ⟨_, rfl⟩
        have BF : Hid (Below V2.heap.size V2 F) := by show Below _ _ _; rw [← hF]; exact below_new V2 _
        have BZF : Hid (Below Z.heap.size Z F) := BV2.out.trans (BF.out.mono BV2.out.size)
        have RF : Hid (RowC F m 120 (mtC rb (.slice (some ⟨Bb, 0, none⟩) bn cb) (.slice (some ⟨gh, 0, none⟩) P ch) x.gen x.g x.a x.q j ta tq (gr - (us : Int)))) := by show RowC _ _ _ _; rw [← hF, ← hm', ← hmc]; exact RowC.new V2 _ _
        have HMM : Hid (V2.heap.size = m) := hm'
        go_wp2_with fail
        clear hF hm' hmc
        refine planPost_mk ⟨⟨F, BZF.out⟩, rfl⟩ ?_
        rw [wpPlanN_leaf]
        simp only [List.drop_succ_cons, List.drop_zero]
        go_wp2_with fail
        refine bodyPost_ret (results_tmp2 rfl _ _ _) rfl ?_
        have hbl : (List.take x.g.bts.toNat (layTs hm ts).flatten).length = bn := by rw [HFLE.out, HBN.out, List.length_take, HFLN.out]; have := HBF.out.2.1; omega
        have hml : hm.length = P := HML.out.trans HP.out
        have h1 : w.heap.size ≤ Z.heap.size := HZ3.out.size
        have h2 : Z.heap.size ≤ V.heap.size := BV.out.size
        have h3 : V1.heap.size ≤ V2.heap.size := HV12.out.size
        have h4 : V.heap.size ≤ V1.heap.size := by have := HBB.out.1; have := HBB.out.2.2.1; omega
        have h5 := HMM.out
        have hghl : gh < x3.heap.size := HPG.out.lt
        have h6 : x3.heap.size ≤ Z.heap.size := BZ.out.size
        have hBB := HBB.out
        have hgF : F.heap[gh]? = x3.heap[gh]? := (BF.out.block gh (by omega)).trans ((BV2.out.block gh (by omega)).trans (BZ.out.block gh hghl))
        have hbF : F.heap[Bb]? = V1.heap[Bb]? := (BF.out.block Bb (by omega)).trans (HV12.out.block Bb (by omega))
        refine ⟨.inl ⟨_, m, fun k => k = m ∨ k = Bb ∨ k = gh, HOPN.out, rfl, ⟨Bb, cb, gh, ch, x.a, x.q, ?_, rfl⟩, fun k hk => ?_⟩, HZ3.out.trans (BZF.out.mono h1)⟩
        · refine ⟨?_, by omega, by omega, by omega, by show 0 < (List.take x.g.bts.toNat (layTs hm ts).flatten).length; rw [hbl]; exact HBF.out.1, by show 0 < hm.length; rw [hml]; have h7 := HNT2.out.p1; have h8 := HP.out; omega, by show (List.take x.g.bts.toNat (layTs hm ts).flatten).length ≤ cb ∧ cb ≤ maxLen; rw [hbl]; exact ⟨by have := HBF.out.2.1; omega, hBB.2.2.2.2.1⟩, ?_, ?_, ⟨cur, _, hgF.trans HCU.out⟩, rangeAt_same HPG.out.at_ hgF⟩
          · show RowC F m _ (mtC rb (.slice (some ⟨Bb, 0, none⟩) (List.take x.g.bts.toNat (layTs hm ts).flatten).length cb) (.slice (some ⟨gh, 0, none⟩) hm.length ch) x.gen x.g x.a x.q j ta tq (x.g.r - ((usedBy ts : Nat) : Int)))
            rw [hbl, hml, HGR.out, HUS.out]
            exact RF.out
          · obtain ⟨cur', h⟩ := hBB.2.2.2.2.2
            exact ⟨cur', _, hbF.trans h⟩
          · show F.rangeAt Bb 0 (u8s (List.take x.g.bts.toNat (layTs hm ts).flatten))
            rw [HFLE.out]
            refine rangeAt_same (fun i v hi => hBB.2.2.2.1 i v ?_) hbF
            unfold u8s at hi ⊢
            rw [List.map_take, List.getElem?_take] at hi
            split at hi
            · exact hi
            · cases hi
        · have h9 : w.heap.size ≤ gh := HGH.out
          rcases hk with rfl | rfl | rfl
          · omega
          · omega
          · exact h9
    · have hop : S.opn = none := by rw [HOP.out]; exact if_neg hno
      clear hb
      go_wp2_with fail
      refine bodyPost_ret (results_tmp2 rfl _ _ _) rfl ?_
      exact ⟨.inr ⟨hop, rfl⟩, K3.out⟩
end
theorem opn_n0 {S : RS} (hby : S.Byt) {M : MS} (h : S.opn = some M) : 2 ≤ S.n0 := by
  cases hn : newer (S.supAt 0) (S.supAt 1) with
  | none => unfold RS.opn at h; rw [hn] at h; cases h
  | some p =>
    obtain ⟨j, x⟩ := p
    obtain ⟨_, hf, _⟩ := newer_tells hby hn
    have hN := Geo.nats hf.1
    have h1 := hN.f
    have h2 := hf.2.1
    have h3 := hN.s1
    omega
set_option maxRecDepth 100000 in
theorem mvOpen_some {rb p0 p1 : Nat} {S : RS} {w : World} {f : Nat → Prop} (h : RigR rb p0 p1 S w f) (hr : S.Rdy) (hu : S.Up) {M : MS} (ho : S.opn = some M) :
    Calls Tryz.prog 26 #[.pointer (some ⟨rb, 0, none⟩)] w fun e w' => ∃ m, e = .returned (.tuple #[.pointer (some ⟨m, 0, none⟩), .int .i64 0]) ∧ ∃ f', Sep (RigR rb p0 p1 S) (MemX m rb M) w' f' ∧ Turn f f' w w' := by
  refine (mvOpen h hr hu.down (opn_n0 hr.bb.byt ho)).mono ?_
  rintro e w' ⟨⟨M', m, fm, h1, rfl, h2, h3⟩ | ⟨h1, _⟩, hb⟩
  · rw [ho] at h1
    cases h1
    have hlt := (RigR.isRes rb p0 p1 S).lt h
    exact ⟨m, rfl, fun k => f k ∨ fm k, ⟨f, fm, h.beside hb, h2, fun k hk hm => by have := hlt k hk; have := h3 k hm; omega, rfl⟩, (Turn.of_below hb).less fun k hk => hk.elim .inl fun hm => .inr (h3 k hm)⟩
  · rw [ho] at h1; cases h1
set_option maxRecDepth 100000 in
theorem mvOpen_no {rb p0 p1 : Nat} {S : RS} {w : World} {f : Nat → Prop} (h : RigR rb p0 p1 S w f) (hr : S.Rdy) (hu : S.Up) (hn : 2 ≤ S.n0) (ho : S.opn = none) :
    Calls Tryz.prog 26 #[.pointer (some ⟨rb, 0, none⟩)] w fun e w' => e = .returned (.tuple #[.pointer none, .int .i64 11]) ∧ Below w.heap.size w w' := by
  refine (mvOpen h hr hu.down hn).mono ?_
  rintro e w' ⟨⟨M', m, fm, h1, _⟩ | ⟨_, rfl⟩, hb⟩
  · rw [ho] at h1; cases h1
  · exact ⟨rfl, hb⟩
end Go.Proofs.YtbdfllamhcodjaaGreat

/- The developers' Format: plain facts; how it goes batch by batch. -/
namespace Go.Proofs.YtbdfllamhcodjaaGreat
open Go.RowKit Go.Shelf
set_option linter.unusedVariables false

/-- The three batches. -/
theorem fmtB_eq (g : Geo) (b : List Int) (h : nPcs b = g.P) : fmtB g b = [zsW 0 2, zsW 2 g.C ++ homWs g.H (cutL b) (selP (cutL b).length fun _ => true), [(0, u8s (supSct 1 g 0 1).bytes)]] := by
  unfold fmtB
  rw [fmt_sel g b h]
  rfl
/-- What a store of a batch finds. -/
structure StepOk (S T : RS) (l : Wrs) : Prop where
  st : S.st l = (T, 0)
  fu : S.fuse ≤ 1000000
  d : 0 ≤ S.done ∧ S.done ≤ 940000
  few : S.Few 250
  lt : ∀ x ∈ l, x.1 < S.n0
  nodup : (l.map (·.1)).Nodup
  blk : ∀ x ∈ l, IsBlk x.2
  len : l.length ≤ 1000
theorem fmt_steps {S : RS} (hr : S.Rdy) (hu : S.Up) {g : Geo} {b : List Int} (hg : g.good) (h0 : g.oF ≤ S.n0) (hl : b.length = g.bts.toNat) (hb : IsBytes b) :
    ∀ k l, (fmtB g b)[k]? = some l → StepOk (S.bat ((fmtB g b).take k)).1 (S.bat ((fmtB g b).take (k + 1))).1 l := by
  have hok := fmt_ok hg h0 hb (S := S)
  have hN := Geo.nats hg
  have hpc : nPcs b = g.P := by unfold nPcs; rw [hl, hN.bp]
  have hL3 : (fmtB g b).length = 3 := by rw [fmtB_eq g b hpc]; rfl
  have hlen : ∀ l ∈ fmtB g b, l.length ≤ 1000 := by
    intro l h
    rw [fmtB_eq g b hpc] at h
    have := hN.c2
    have := hN.p2
    simp only [List.mem_cons, List.not_mem_nil, or_false] at h
    rcases h with rfl | rfl | rfl
    · rw [zsW_length]; omega
    · rw [List.length_append, zsW_length]
      have h2 : (homWs g.H (cutL b) (selP (cutL b).length fun _ => true)).length ≤ (cutL b).length := by unfold homWs; rw [List.length_map]; exact selP_length_le _ _
      rw [cutL_len, hpc] at h2
      rw [cutL_len, hpc]
      omega
    · simp
  have hE : ∀ k, (S.bat ((fmtB g b).take k)).2 = 0 := fun k => (RS.bat_up _ S hu fun l hl x hx => (hok l (List.mem_of_mem_take hl)).lt x hx).1
  have hst : ∀ k l, (fmtB g b)[k]? = some l → (S.bat ((fmtB g b).take k)).1.st l = ((S.bat ((fmtB g b).take (k + 1))).1, 0) := fun k l hk => by
    have e : (fmtB g b).take (k + 1) = (fmtB g b).take k ++ [l] := by rw [List.take_add_one, hk]; rfl
    have h1 := RS.bat_append ((fmtB g b).take k) [l] S
    rw [if_pos (hE k), ← e, RS.bat_one] at h1
    rw [← h1]
    exact Prod.ext rfl (hE (k + 1))
  have key : ∀ k, k ≤ 3 → (S.bat ((fmtB g b).take k)).1.n0 = S.n0 ∧ (S.bat ((fmtB g b).take k)).1.Few (100 + k) ∧ (0 ≤ (S.bat ((fmtB g b).take k)).1.done ∧ (S.bat ((fmtB g b).take k)).1.done ≤ 500000 + (1001 * k : Nat)) ∧ (S.bat ((fmtB g b).take k)).1.fuse ≤ 1000000 := by
    intro k
    induction k with
    | zero => intro _; exact ⟨rfl, hr.few, ⟨hr.d0, hr.d1⟩, hr.fu⟩
    | succ k ih =>
      intro hk
      obtain ⟨i1, i2, i3, i4⟩ := ih (by omega)
      have hget : (fmtB g b)[k]? = some ((fmtB g b)[k]'(by omega)) := List.getElem?_eq_getElem _
      have hm := List.mem_of_getElem? hget
      obtain ⟨j1, j2, j3, j4, _⟩ := RS.Rdy.st (l := (fmtB g b)[k]'(by omega)) (m := 100 + k) (d := 1001 * k) i2 i3 i4 (by omega) (by rw [i1]; exact (hok _ hm).lt) (hok _ hm).nodup
      rw [hst k _ hget] at j1 j2 j3 j4
      have := hlen _ hm
      refine ⟨j1.trans i1, j2, ⟨j3.1, ?_⟩, j4⟩
      have h : (S.bat ((fmtB g b).take (k + 1))).1.done ≤ _ := j3.2
      omega
  intro k l hk
  have hkl : k < 3 := by rw [← hL3]; exact (List.getElem?_eq_some_iff.1 hk).1
  obtain ⟨i1, i2, i3, i4⟩ := key k (by omega)
  have hm := List.mem_of_getElem? hk
  refine ⟨hst k l hk, i4, ⟨i3.1, by have := i3.2; omega⟩, i2.mono (by omega), by rw [i1]; exact (hok l hm).lt, (hok l hm).nodup, fun x hx => ?_, hlen l hm⟩
  obtain ⟨bs, e, _, h64⟩ := (hok l hm).bb x hx
  rw [e]
  exact isBlk_u8s h64
theorem fmt_all {S : RS} (hu : S.Up) {g : Geo} {b : List Int} (hg : g.good) (h0 : g.oF ≤ S.n0) (hb : IsBytes b) : (S.bat ((fmtB g b).take 0)).1 = S ∧ (S.bat ((fmtB g b).take 3)).1 = (S.bat (fmtB g b)).1 := by
  refine ⟨rfl, ?_⟩
  rw [List.take_of_length_le (by unfold fmtB; simp)]
section
set_option maxRecDepth 100000
set_option maxRecDepth 100000 in
theorem build_sls3 (w : World) (a b c : Option Addr) (la lb lc ca cb cc : Nat) : (Instr.buildSlice 116 3 #[(0, .slice a la ca), (1, .slice b lb cb), (2, .slice c lc cc)]).run Tryz.prog w = .ok (.slice (some ⟨w.heap.size, 0, none⟩) 3 3) (w.alloc (.cells #[.slice a la ca, .slice b lb cb, .slice c lc cc] 106)) := by kernel_rfl
end
theorem wr_one {l : Wrs} (h : ∀ x ∈ l, IsBlk x.2) : ∀ x ∈ wrR l, ∀ y ∈ x, y.oneCell' = true := by
  intro x hx
  obtain ⟨y, hy, rfl⟩ := List.mem_map.1 hx
  exact wrC_one (h y hy)
theorem wrR_append (a b : Wrs) : wrR (a ++ b) = wrR a ++ wrR b := List.map_append
theorem owns_same {w w' : World} {N e size n : Nat} {v : Value} {xs : List Value} (h : w.ownsRow N e size v n xs) (h2 : ∀ g, v.ownBlock = some g → w'.heap[g]? = w.heap[g]?) : w'.ownsRow N e size v n xs := by
  refine ⟨h.1, ?_⟩
  rcases h.2 with h' | ⟨g, cap, cur, rfl, a1, a2, a3⟩
  · exact .inl h'
  · exact .inr ⟨g, cap, cur, rfl, a1, (h2 g rfl).trans a2, a3⟩
theorem owns_up {w : World} {N M e size n : Nat} {v : Value} {xs : List Value} (h : w.ownsRow N e size v n xs) (hM : M ≤ N) : w.ownsRow M e size v n xs := by
  refine ⟨h.1, ?_⟩
  rcases h.2 with h' | ⟨g, cap, cur, rfl, a1, a2, a3⟩
  · exact .inl h'
  · exact .inr ⟨g, cap, cur, rfl, Nat.le_trans hM a1, a2, a3⟩
theorem owns_lt {w : World} {N e size n : Nat} {v : Value} {xs : List Value} (h : w.ownsRow N e size v n xs) : ∀ g, v.ownBlock = some g → N ≤ g ∧ g < w.heap.size := by
  intro g hg
  rcases h.2 with ⟨rfl, _⟩ | ⟨g', cap, cur, rfl, a1, a2, a3⟩
  · cases hg
  · cases hg; exact ⟨a1, (Array.getElem?_eq_some_iff.1 a2).1⟩
end Go.Proofs.YtbdfllamhcodjaaGreat

/- The developers' Format. -/
namespace Go.Proofs.YtbdfllamhcodjaaGreat
open Go.RowKit Go.Shelf
set_option linter.unusedVariables false
attribute [-simp] Tryz.isAgg60 Tryz.zeroValue60 Tryz.isAgg112 Tryz.zeroValue112 Tryz.isAgg189 Tryz.zeroValue189 Tryz.isAgg133 Tryz.zeroValue133 Tryz.isAgg114 Tryz.zeroValue114 Tryz.isAgg105 Tryz.zeroValue105 Tryz.isAgg23 Tryz.zeroValue23 Tryz.isAgg157 Tryz.zeroValue157 Tryz.isAgg120 Tryz.zeroValue120
attribute [-go_sem] loadVar storeVar run_equalIn_agg
attribute [local go_sem] zero_blk build_blk zero_bod zero_pg build_pg build_pg0 build_pg2 zero_imgD zero_wr zero_sup zero_geoM build_geoM zero_spot zero_logM build_spot loadVar_openV storeVar_openV
section
set_option maxRecDepth 100000
set_option maxHeartbeats 20000000
set_option maxRecDepth 100000 in
/-- **Format**. -/
theorem mvFormat {rb p0 p1 : Nat} {S : RS} {w : World} {f : Nat → Prop} (h : RigR rb p0 p1 S w f) (hr : S.Rdy) (hu : S.Up) {g : Geo} (hgi : g.In) (hg : g.good) (h0 : g.oF ≤ S.n0) (h1 : g.oW ≤ S.n1) {v : Value} {bs : List Int} (hv : Sl .u8 w v bs) (hbs : IsBytes bs) (hl : bs.length = g.bts.toNat) (ha : Away v f) :
    Calls Tryz.prog 16 #[.pointer (some ⟨rb, 0, none⟩), .agg g.v, v] w fun e w' => ∃ m, e = .returned (.tuple #[.pointer (some ⟨m, 0, none⟩), .int .i64 0]) ∧ ∃ f', Sep (RigR rb p0 p1 (S.bat (fmtB g bs)).1) (MemX m rb (MS.new g bs)) w' f' ∧ Turn f f' w w' := by
  have hN := Geo.nats hg
  obtain ⟨nH, nP, nR, nB, nC⟩ := Geo.goodNums hg
  have hpc : nPcs bs = g.P := by unfold nPcs; rw [hl, hN.bp]
  have hP2 : 2 ≤ g.P := hN.p1
  have hP15 : g.P ≤ 15 := hN.p2
  have hb0 : 0 < bs.length := by have := hN.bp; rw [hl]; omega
  have hb7 : bs.length ≤ 714 := by rw [hl]; exact hN.b2
  have HST := Lib.hid (fmt_steps hr hu hg h0 hl hbs)
  obtain ⟨e0, e3⟩ := fmt_all hu hg h0 hbs
  rw [← e3]
  obtain ⟨T, hT⟩ : ∃ T : Nat → RS, (fun k => (S.bat ((fmtB g bs).take k)).1) = T := ⟨_, rfl⟩
  have hTk : ∀ k, (S.bat ((fmtB g bs).take k)).1 = T k := fun k => by rw [← hT]
  rw [hTk] at e0
  rw [hTk]
  have HST : Hid (∀ k l, (fmtB g bs)[k]? = some l → StepOk (T k) (T (k + 1)) l) := fun k l hk => by have := HST.out k l hk; rwa [hTk, hTk] at this
  rw [fmtB_eq g bs hpc] at HST
  have HT0 := Lib.hid e0
  have HFI : Hid (∀ Y, Below w.heap.size w Y → Calls Tryz.prog 46 #[.pointer (some ⟨rb, 0, none⟩), .agg g.v] Y fun e w' => e = .returned (.bool true) ∧ Below Y.heap.size Y w') := fun Y hY => by
    have := (h.beside hY).fits g hgi
    rwa [decide_eq_true (show g.fitsR S.n0 S.n1 from ⟨hg, h0, h1⟩)] at this
  have HCT : Hid (∀ x, Below w.heap.size w x → Calls Tryz.prog 48 #[v] x fun e w' => ∃ gh c cur, e = .returned (.slice (some ⟨gh, 0, none⟩) g.P c) ∧ PgsR w' (.slice (some ⟨gh, 0, none⟩) g.P c) gh (cutL bs) ∧ x.heap.size ≤ gh ∧ w'.heap[gh]? = some (.cells cur 112 (0, 0)) ∧ Below x.heap.size x w') := fun x hx => by
    have := cutP x (hv.below hx) hbs (by omega) (by rw [hpc]; omega)
    rwa [hpc] at this
  have HCL : Hid ((cutL bs).length = g.P) := by show _ = _; rw [cutL_len, hpc]
  have HCK := Lib.hid (cutL_ok hbs)
  have hne : bs ≠ [] := by intro e; rw [e] at hb0; simp at hb0
  obtain ⟨Bv, ov, cv, rfl, hvl⟩ : ∃ Bv ov cv, v = .slice (some ⟨Bv, ov, none⟩) bs.length cv ∧ Bv < w.heap.size := by
    obtain ⟨a', c', e, _, _, hla, _⟩ := hv
    rcases hla with h0 | ⟨b', o', e', h3, _⟩
    · exact absurd h0 hne
    · exact ⟨b', o', c', by rw [e, e'], h3⟩
  have HVF : Hid (¬ f Bv ∧ Bv < w.heap.size) := ⟨ha Bv ov bs.length cv rfl, hvl⟩
  have hB : g.oB = (bs.length : Int) := by rw [nB, hl]; exact hN.b.symm
  have HB := Lib.hid hB
  have HVS := Lib.hid hv
  have HH := Lib.hid h
  have HGI := Lib.hid hgi
  have HGD := Lib.hid hg
  have HNN := Lib.hid hN
  have HNH := Lib.hid nH
  have HNR := Lib.hid nR
  have HLB := Lib.hid hl
  have HB0 : Hid (0 < bs.length ∧ bs.length ≤ 714) := ⟨hb0, hb7⟩
  have HSIN : Hid (SupIn 1 g 0 1) := Geo.supIn hg ⟨by omega, by omega⟩ ⟨by omega, by have := hN.c; have := hN.c1; omega⟩ ⟨by omega, by omega⟩
  have HZ0 : Hid (∀ Y : World, Calls Tryz.prog 49 #[.int .i64 0, .int .i64 2] Y fun e w' => ∃ v, e = .returned v ∧ w'.ownsRow Y.heap.size 114 65 v (wrR (zsW 0 2)).length (wrR (zsW 0 2)).flatten ∧ Below Y.heap.size Y w') := fun Y => mvZeros (F := 0) (n := 2) (by omega) (by omega) Y
  obtain ⟨gr, hgr⟩ : ∃ r, g.r = r := ⟨_, rfl⟩
  have HGR := Lib.hid hgr
  have HZ1 : Hid (∀ Y : World, Calls Tryz.prog 49 #[.int .i64 ((2 : Nat) : Int), .int .i64 gr] Y fun e w' => ∃ v, e = .returned v ∧ w'.ownsRow Y.heap.size 114 65 v (wrR (zsW 2 g.C)).length (wrR (zsW 2 g.C)).flatten ∧ Below Y.heap.size Y w') := fun Y => by
    have := mvZeros (F := 2) (n := g.C) (by omega) (by have := hN.c2; omega) Y
    rwa [← nC, hgr] at this
  have HSWR : Hid (∀ x, Calls Tryz.prog 53 #[.int .i64 0, .agg (supC 1 g 0 1).toArray] x fun e w' => e = .returned (.agg (wrC (0, u8s (supSctI 1 g 0 1).bytes)).toArray) ∧ Below x.heap.size x w') := fun x => mvSuperWrite 0 HSIN.out x
  have hmx : Tryz.prog.follows .mixedOrders = true := by kernel_rfl
  obtain ⟨P, hP⟩ : ∃ P, g.P = P := ⟨_, rfl⟩
  rw [hP] at HCT HCL hP2 hP15
  obtain ⟨n, hn⟩ : ∃ n, bs.length = n := ⟨_, rfl⟩
  rw [hn] at HCT HB HVS HLB HB0
  have HBN := Lib.hid hn
  rw [hn]
  clear h hr hu hgi hg h0 h1 hv hbs hl ha hN nH nP nR nB nC hpc hb0 hb7 e0 e3 hT hTk hne hvl hB hP hn hgr
  obtain ⟨W1, hW1⟩ : ∃ W, w.alloc (.cells g.v 23) = W := ⟨_, rfl⟩
  have r1 : RowC W1 w.heap.size 23 g.cs := by rw [← hW1]; exact RowC.new w _ _
  have b1 : Below w.heap.size w W1 := by rw [← hW1]; exact below_new w _
  obtain ⟨B1, hB1⟩ : ∃ b, w.heap.size = b := ⟨_, rfl⟩
  have HB1 := Lib.hid hB1
  rw [hB1] at r1
  have R1 := Lib.hid r1
  have K1 := Lib.hid b1
  have L1 := load_geo r1
  clear r1 b1
  go_enter Tryz.func16, Tryz.ntmps16
  go_wp2_with fail
  clear hW1 hB1 L1
  go_at_call 46
  refine (HFI.out W1 K1.out).mono ?_
  rintro e x1 ⟨rfl, hb⟩
  have K2 : Hid (Below w.heap.size w x1) := K1.out.trans (hb.mono K1.out.size)
  have R2 := Lib.hid (R1.out.below hb)
  have L1 := load_geo R2.out
  clear hb R1 HFI
  go_wp2_with fail
  clear L1
  go_at_call 47
  refine (gmBytes g HGI.out x1).mono ?_
  rw [HB.out]
  rintro e x2 ⟨rfl, hb⟩
  have K3 : Hid (Below w.heap.size w x2) := K2.out.trans (hb.mono K2.out.size)
  have R3 := Lib.hid (R2.out.below hb)
  clear hb R2
  go_wp2_with fail
  go_at_call 48
  refine (HCT.out x2 K3.out).mono ?_
  rintro e x3 ⟨gh, ch, cur, rfl, hpg, hgh, hcur, hb⟩
  have K4 : Hid (Below w.heap.size w x3) := K3.out.trans (hb.mono K3.out.size)
  have R4 := Lib.hid (R3.out.below hb)
  have HGH : Hid (w.heap.size ≤ gh) := Nat.le_trans K3.out.size hgh
  have L1 := load_geo R4.out
  obtain ⟨x4, ST, r4, hb4⟩ := new_supV x3 (C := supC 1 g 0 1) rfl (supC_one _ _ _ _)
  obtain ⟨B9, hB9⟩ : ∃ b, x3.heap.size = b := ⟨_, rfl⟩
  obtain ⟨sc, hsc⟩ : ∃ c, (supC 1 g 0 1).toArray = c := ⟨_, rfl⟩
  have HSC := Lib.hid hsc
  have BS : Hid ((Instr.build 105 #[(0, .int .u32 1), (1, .agg g.v), (2, .agg #[.int .i64 0, .int .u32 1])]).run Tryz.prog x3 = .ok (.agg sc) x3) := by show _ = _; rw [← hsc]; exact build_sup3 1 g 0 1 x3
  rw [hB9, hsc] at ST
  rw [hB9] at r4
  rw [hsc] at HSWR
  have K5 : Hid (Below w.heap.size w x4) := K4.out.trans (hb4.mono K4.out.size)
  have R5 := Lib.hid (R4.out.below hb4)
  have R9 := Lib.hid r4
  have PG := Lib.hid (hpg.below hb4)
  have HCU : Hid (x4.heap[gh]? = some (.cells cur 112 (0, 0))) := (hb4.block _ hpg.lt).trans hcur
  have HB9 : Hid (w.heap.size ≤ B9) := by show _ ≤ _; rw [← hB9]; exact K4.out.size
  clear hb hpg hgh hcur hb4 r4 R3 R4 HCT hsc
  go_wp2_with (first | ((with_reducible refine gate_struct 105 ?_); refine wpList_struct_run _ _ rfl rfl [(0, .int .u32 1), (1, .agg g.v), (2, .agg #[.int .i64 0, .int .u32 1])] _ rfl BS.out ?_))
  clear ST L1 hB9 BS
  have eg : ∀ z : Ext x4, (loadVar 23 ⟨B1, 0, none⟩).run Tryz.prog z.1 = .ok (.agg g.v) z.1 := fun z => load_geo (R5.out.below z.2)
  have e4 : ∀ z : Ext x4, z.1.cell? ⟨B1, 4, none⟩ = some (.int .i64 gr) := fun z => by rw [← HGR.out]; exact (R5.out.below z.2).cell 4 _ rfl
  have es : ∀ z : Ext x4, (loadVar 105 ⟨B9, 0, none⟩).run Tryz.prog z.1 = .ok (.agg sc) z.1 := fun z => by rw [← HSC.out]; exact (R9.out.below z.2).sup
  refine region_planN (fun x => ∃ y : Ext x4, x = y.1) 17 (.takes [1, 3, 4, 6, 7, 11, 16] (.one 0 (.one 2 (.one 5 (.one 8 (.one 9 (.one 10 (.one 12 (.one 13 (.one 14 (.take 15 .leaf))))))))))) hmx (by kernel_rfl) ⟨⟨x4.drew, (Below.refl _ x4).drew⟩, rfl⟩ ?_
  repeat (rw [wpPlanN_takes_cons]; simp only [nth_zero, nth_succ]; go_big_quiet_step (fail); refine wpQuiet_nil ?_)
  rw [wpPlanN_takes_nil, wpPlanN_one]
  simp only [nth_zero]
  clear eg e4 es
  obtain ⟨V0, hV0⟩ : ∃ X, x4.drew = X := ⟨_, rfl⟩
  have BV0 : Hid (Below x4.heap.size x4 V0) := by show Below _ _ _; rw [← hV0]; exact (Below.refl _ x4).drew
  try rw [hV0]
  clear hV0
  go_wp2_with fail
  go_at_call 49
  refine (HZ0.out V0).mono ?_
  rintro e V1 ⟨v0, rfl, hO0, hb⟩
  have BV1 : Hid (Below x4.heap.size x4 V1) := BV0.out.trans (hb.mono BV0.out.size)
  have O0 := Lib.hid (owns_up hO0 BV0.out.size)
  clear hO0 hb
  go_wp2_with fail
  refine planPost_mk ⟨⟨V1, BV1.out⟩, rfl⟩ ?_
  rw [wpPlanN_one]
  simp only [nth_zero, nth_succ]
  go_wp2_with fail
  go_at_call 50
  refine (gmRing g HGI.out V1).mono ?_
  rw [HNR.out]
  rintro e V2 ⟨rfl, hb⟩
  have BV2 : Hid (Below x4.heap.size x4 V2) := BV1.out.trans (hb.mono BV1.out.size)
  have O0' := Lib.hid (own_belowT O0.out hb)
  clear hb O0
  go_wp2_with fail
  refine planPost_mk ⟨⟨V2, BV2.out⟩, rfl⟩ ?_
  rw [wpPlanN_one]
  simp only [nth_zero, nth_succ]
  go_wp2_with fail
  go_at_call 49
  refine (HZ1.out V2).mono ?_
  rintro e V3 ⟨v1, rfl, hO1, hb⟩
  have BV3 : Hid (Below x4.heap.size x4 V3) := BV2.out.trans (hb.mono BV2.out.size)
  have O0 := Lib.hid (own_belowT O0'.out hb)
  have HV23 : Hid (V2.heap.size ≤ V3.heap.size) := hb.size
  have HN0 : Hid (∀ b, v0.ownBlock = some b → b < V2.heap.size) := fun b e => (owns_lt O0'.out b e).2
  have O1 := Lib.hid hO1
  clear hb O0' hO1
  go_wp2_with fail
  refine planPost_mk ⟨⟨V3, BV3.out⟩, rfl⟩ ?_
  rw [wpPlanN_one]
  simp only [nth_zero, nth_succ]
  go_wp2_with fail
  go_at_call 52
  refine (all_run _ _ _ V3).mono ?_
  rintro e V4 ⟨rfl, hV4⟩
  have hb : Below V3.heap.size V3 V4 := by rw [hV4]; exact below_new V3 _
  have HV24 : Hid (V2.heap.size ≤ V4.heap.size) := Nat.le_trans HV23.out hb.size
  have BV4 : Hid (Below x4.heap.size x4 V4) := BV3.out.trans (hb.mono BV3.out.size)
  obtain ⟨Bs, hBs⟩ : ∃ b, V3.heap.size = b := ⟨_, rfl⟩
  have hPB : PgsB V4 Bs gh (cutL bs) := by
    refine ⟨⟨.slice (some ⟨gh, 0, none⟩) P ch, ?_, PG.out.below BV4.out⟩, ?_⟩
    · rw [hV4, ← hBs]; exact Boxed.new V3 _ _
    · rw [hV4, ← hBs, World.size_alloc]; omega
  have HHW := Lib.hid (mvHomeWrites (H := g.H) HGI.out HNH.out (by have := HNN.out.c2; unfold Geo.H; omega) HCL.out (by omega) HCK.out (fun _ => true) 101 #[.pointer (some ⟨Bs, 0, none⟩)]
    (enters_of Tryz.func101 (by kernel_rfl) rfl) (fun k => k = Bs ∨ k = gh) V4 (by rintro k (rfl | rfl); exact hPB.lt; exact (PG.out.below BV4.out).lt) (all_stops 2 (by omega) Bs gh P (cutL bs) HCL.out V4 hPB))
  rw [← HCL.out] at HHW
  have O0' := Lib.hid (own_belowT O0.out hb)
  have O1' := Lib.hid (own_belowT O1.out hb)
  rw [hBs]
  clear hb O0 O1 hV4 hBs hPB
  go_wp2_with fail
  refine planPost_mk ⟨⟨V4, BV4.out⟩, rfl⟩ ?_
  rw [wpPlanN_one]
  simp only [nth_zero, nth_succ]
  go_wp2_with fail
  go_at_call 51
  refine HHW.out.mono ?_
  rintro e V5 ⟨v2, rfl, hO2, hb⟩
  have HV25 : Hid (V2.heap.size ≤ V5.heap.size) := Nat.le_trans HV24.out hb.size
  have BV5 : Hid (Below x4.heap.size x4 V5) := BV4.out.trans (hb.mono BV4.out.size)
  have O0 := Lib.hid (own_belowT O0'.out hb)
  have O1 := Lib.hid (own_belowT O1'.out hb)
  have O2 := Lib.hid hO2
  clear hb O0' O1' HHW hO2
  go_wp2_with fail
  refine planPost_mk ⟨⟨V5, BV5.out⟩, rfl⟩ ?_
  rw [wpPlanN_one]
  simp only [nth_zero, nth_succ]
  have hN1 := owns_lt O1.out
  obtain ⟨v3, V6, ra, o3, g6, -⟩ := append_wrs V2.heap.size V5 v1 v2 _ _ O1.out (owns_up O2.out (Nat.zero_le _)) (wr_one fun x hx => (HST.out 1 _ rfl).blk x (List.mem_append_right _ hx)) (by
    have h1 := (HST.out 1 _ rfl).len
    rw [List.length_append] at h1
    have e1 : (wrR (zsW 2 g.C)).length = (zsW 2 g.C).length := by simp [wrR]
    have e2 : (wrR (homWs g.H (cutL bs) (selP (cutL bs).length fun _ => true))).length = (homWs g.H (cutL bs) (selP (cutL bs).length fun _ => true)).length := by simp [wrR]
    rw [e1, e2]
    omega) HV25.out
  have RA6 := Lib.hid ra
  have hne : v0.ownBlock = none ∨ v0.ownBlock ≠ v1.ownBlock := by
    cases e : v0.ownBlock with
    | none => exact .inl rfl
    | some b => exact .inr fun e2 => by have h1 := HN0.out b e; have h2 := (hN1 b e2.symm).1; omega
  have O6 := Lib.hid (O0.out.kept g6 hne)
  have BV6 : Hid (Below x4.heap.size x4 V6) := BV5.out.grown g6 BV5.out.size (fun j e => Nat.le_trans BV2.out.size (hN1 j e).1)
  have O3 : Hid (V6.ownsRow x4.heap.size 114 65 v3 (wrR (zsW 2 g.C ++ homWs g.H (cutL bs) (selP (cutL bs).length fun _ => true))).length (wrR (zsW 2 g.C ++ homWs g.H (cutL bs) (selP (cutL bs).length fun _ => true))).flatten) := by
    rw [wrR_append]
    exact owns_up o3 BV2.out.size
  clear hN1 ra o3 g6 hne O0 O1 O2 HN0
  go_wp2_with ((at_builtin; refine wpList_append_run (.tmp 34) (.tmp 38) 106 rfl rfl _ _ _ rfl rfl RA6.out ?_))
  refine planPost_mk ⟨⟨V6, BV6.out⟩, rfl⟩ ?_
  clear RA6
  rw [wpPlanN_one]
  simp only [nth_zero, nth_succ]
  go_wp2_with fail
  go_at_call 53
  refine (HSWR.out V6).mono ?_
  rintro e V7 ⟨rfl, hb⟩
  have BV7 : Hid (Below x4.heap.size x4 V7) := BV6.out.trans (hb.mono BV6.out.size)
  have O0 := Lib.hid (own_belowT O6.out hb)
  have O1 := Lib.hid (own_belowT O3.out hb)
  have hbk : IsBlk (u8s (supSctI 1 g 0 1).bytes) := isBlk_u8s (Sct.bytes_length (supSctI_ok HSIN.out.gen _ _ _))
  have hwl := wrC_length (x := (0, u8s (supSctI 1 g 0 1).bytes)) hbk.length
  have hl2 : [wrC (0, u8s (supSctI 1 g 0 1).bytes)] = wrR [(0, u8s (supSct 1 g 0 1).bytes)] := by rw [show supSct 1 g 0 1 = supSctI 1 g 0 1 from (supSctI_nat 1 g 0 1).symm]; rfl
  obtain ⟨wc, hwc⟩ : ∃ c, wrC (0, u8s (supSctI 1 g 0 1).bytes) = c := ⟨_, rfl⟩
  rw [hwc] at hwl hl2
  rw [hwc]
  obtain ⟨V8, hx8⟩ : ∃ y, V7.alloc (.cells wc.toArray 114) = y := ⟨_, rfl⟩
  have SB : (Instr.buildSlice 106 1 #[(0, .agg wc.toArray)]).run Tryz.prog V7 = .ok (.slice (some ⟨V7.heap.size, 0, none⟩) 1 1) V8 := by rw [← hx8]; exact slice_wr V7 _ hwl
  have b8 : Below V7.heap.size V7 V8 := by rw [← hx8]; exact below_new V7 _
  have BV8 : Hid (Below x4.heap.size x4 V8) := BV7.out.trans (b8.mono BV7.out.size)
  have hO8 : V8.ownsRow V7.heap.size 114 65 (.slice (some ⟨V7.heap.size, 0, none⟩) 1 1) (wrR [(0, u8s (supSct 1 g 0 1).bytes)]).length (wrR [(0, u8s (supSct 1 g 0 1).bytes)]).flatten := by
    rw [← hl2]
    refine ⟨by simp [hwl], .inr ⟨V7.heap.size, 1, wc.toArray, rfl, Nat.le_refl _, by rw [← hx8]; exact heap_alloc_new V7 _, by simp, by unfold maxLen; omega, by simp [hwl], ?_⟩⟩
    simp
    exact List.take_of_length_le (by omega)
  have O2 := Lib.hid (owns_up hO8 BV7.out.size)
  have O0' := Lib.hid (own_belowT O0.out b8)
  have O1' := Lib.hid (own_belowT O1.out b8)
  obtain ⟨Bq, hBq⟩ : ∃ b, V7.heap.size = b := ⟨_, rfl⟩
  rw [hBq] at SB O2
  clear hb hbk hwl hwc hx8 b8 hO8 O0 O1 O6 O3 hl2 hBq
  go_wp2_with fail
  refine planPost_mk ⟨⟨V7, BV7.out⟩, rfl⟩ ?_
  rw [wpPlanN_one]
  simp only [nth_zero, nth_succ]
  refine wpList_build_run _ _ _ rfl rfl [(0, .agg wc.toArray)] _ rfl SB ?_
  clear SB
  go_wp2_with fail
  refine planPost_mk ⟨⟨V8, BV8.out⟩, rfl⟩ ?_
  rw [wpPlanN_one]
  simp only [nth_zero, nth_succ]
  obtain ⟨l0, hl0⟩ : ∃ l, zsW 0 2 = l := ⟨_, rfl⟩
  obtain ⟨l1, hl1⟩ : ∃ l, zsW 2 g.C ++ homWs g.H (cutL bs) (selP (cutL bs).length fun _ => true) = l := ⟨_, rfl⟩
  obtain ⟨l2, hl2⟩ : ∃ l : Wrs, [(0, u8s (supSct 1 g 0 1).bytes)] = l := ⟨_, rfl⟩
  have hl2n : l2.length = 1 := by rw [← hl2]; rfl
  rw [hl0, hl1, hl2] at HST
  rw [hl0] at O0'
  rw [hl1] at O1'
  rw [hl2] at O2
  clear hl0 hl1 hl2 HZ0 HZ1 HSWR
  have eW : ∀ l : Wrs, (wrR l).length = l.length := fun l => by simp [wrR]
  rw [eW] at O0' O1' O2
  obtain ⟨a0, c0, rfl, -⟩ := row_lenT O0'.out
  obtain ⟨a1, c1, rfl, -⟩ := row_lenT O1'.out
  rw [hl2n] at O2
  obtain ⟨V9, hV9⟩ : ∃ y, V8.alloc (.cells #[.slice a0 l0.length c0, .slice a1 l1.length c1, .slice (some ⟨Bq, 0, none⟩) 1 1] 106) = y := ⟨_, rfl⟩
  have SB : (Instr.buildSlice 116 3 #[(0, .slice a0 l0.length c0), (1, .slice a1 l1.length c1), (2, .slice (some ⟨Bq, 0, none⟩) 1 1)]).run Tryz.prog V8 = .ok (.slice (some ⟨V8.heap.size, 0, none⟩) 3 3) V9 := by rw [← hV9]; exact build_sls3 V8 _ _ _ _ _ _ _ _ _
  have b9 : Below V8.heap.size V8 V9 := by rw [← hV9]; exact below_new V8 _
  have BV9 : Hid (Below x4.heap.size x4 V9) := BV8.out.trans (b9.mono BV8.out.size)
  obtain ⟨L, hL⟩ : ∃ b, V8.heap.size = b := ⟨_, rfl⟩
  have hLr : RowC V9 L 106 [.slice a0 l0.length c0, .slice a1 l1.length c1, .slice (some ⟨Bq, 0, none⟩) 1 1] := by rw [← hV9, ← hL]; exact RowC.new V8 _ _
  have HLr := Lib.hid hLr
  have HLW : Hid (w.heap.size ≤ L) := by show _ ≤ _; rw [← hL]; exact Nat.le_trans K5.out.size BV8.out.size
  have HLST : Hid (∀ k l, [l0, l1, l2][k]? = some l → ∃ a c, V9.cell? ⟨L, k, none⟩ = some (.slice a l.length c) ∧ V9.ownsRow w.heap.size 114 65 (.slice a l.length c) l.length (wrR l).flatten) := fun k l hk => by
    match k, hk with
    | 0, hk => cases hk; exact ⟨a0, c0, HLr.out.cell 0 _ rfl, owns_up (own_belowT O0'.out b9) K5.out.size⟩
    | 1, hk => cases hk; exact ⟨a1, c1, HLr.out.cell 1 _ rfl, owns_up (own_belowT O1'.out b9) K5.out.size⟩
    | 2, hk => cases hk; exact ⟨_, 1, by rw [hl2n]; exact HLr.out.cell 2 _ rfl, by rw [hl2n]; exact owns_up (own_belowT O2.out b9) K5.out.size⟩
    | k + 3, hk => simp at hk
  rw [hL] at SB
  clear hV9 b9 hL hLr O0' O1' O2 hl2n eW
  refine wpList_build_run _ _ _ rfl rfl [(0, .slice a0 l0.length c0), (1, .slice a1 l1.length c1), (2, .slice (some ⟨Bq, 0, none⟩) 1 1)] _ rfl SB ?_
  clear SB
  go_wp2_with fail
  refine planPost_mk ⟨⟨V9, BV9.out⟩, rfl⟩ ?_
  rw [wpPlanN_take]
  simp only [nth_zero, nth_succ]
  go_big_quiet_step (fail)
  refine wpQuiet_nil ?_
  rw [wpPlanN_leaf]
  simp only [List.drop_succ_cons, List.drop_zero]
  have KW : Hid (Below w.heap.size w V9) := K5.out.trans (BV9.out.mono K5.out.size)
  have HFL : Hid (∀ k, f k → k < w.heap.size) := fun k hk => (RigR.isRes rb p0 p1 S).lt HH.out k hk
  have H0 : Hid (RigR rb p0 p1 (T 0) V9 f) := by show RigR _ _ _ _ _ _; rw [HT0.out]; exact HH.out.beside KW.out
  go_wp2_with fail
  go_loopw [45] (fun i wr => ∃ (k : Nat) (fk : Nat → Prop), k ≤ 3 ∧ i = .int .i64 (k : Int) ∧ Hid (RigR rb p0 p1 (T k) wr fk) ∧ Hid (Turn f fk V9 wr)) (fun i _ => 3 - (intOf i).toNat)
  case atStart => exact ⟨0, f, Nat.zero_le _, rfl, H0, Turn.refl _ _⟩
  case round =>
    obtain ⟨k, fk, hk, rfl, HQ, HTU⟩ := hrel
    by_cases hlt : k < 3
    · have g3 : decide ((k : Int) < 3) = true := by simp; omega
      obtain ⟨l, hlk⟩ : ∃ l, [l0, l1, l2][k]? = some l := ⟨_, List.getElem?_eq_getElem (by simpa using hlt)⟩
      obtain ⟨a, c, hc, hO⟩ := HLST.out k l hlk
      have hst := HST.out k l hlk
      have hLn : ¬ f L := fun h => by have h1 := HFL.out L h; have h2 := HLW.out; omega
      have hcw : wr.cell? ⟨L, k, none⟩ = some (.slice a l.length c) := (World.cell?_of_block (a := ⟨L, k, none⟩) (HTU.out.out L HLr.out.lt hLn)).trans hc
      have hOw : wr.ownsRow w.heap.size 114 65 (.slice a l.length c) l.length (wrR l).flatten := owns_same hO fun b e => HTU.out.out b (owns_lt hO b e).2 (fun h => by have h1 := HFL.out b h; have h2 := (owns_lt hO b e).1; omega)
      have hOf : ∀ b, (Value.slice a l.length c).ownBlock = some b → ¬ fk b := fun b e h => by
        have h2 := owns_lt hO b e
        rcases HTU.out.new b h with h1 | h1
        · have := HFL.out b h1; omega
        · omega
      have HS := Lib.hid (mvStore HQ.out (by have := hst.fu; omega) ⟨hst.d.1, by have := hst.d.2; omega⟩ hst.few (by omega) hst.lt hst.nodup hst.blk hst.len (v := .slice a l.length c) (N := w.heap.size) (by rw [show (wrR l).length = l.length by simp [wrR]]; exact hOw) hOf)
      rw [hst.st] at HS
      clear hlk hc hO hst hLn hOw hOf
      go_wp2_with fail
      go_at_call 54
      refine HS.out.mono ?_
      rintro e y1 ⟨rfl, f1, hq, ht⟩
      have Q1 := Lib.hid hq
      have T1 := Lib.hid (HTU.out.trans ht)
      clear hq ht HS hcw
      go_wp2_with fail
      go_roundw
      case rel => exact ⟨k + 1, f1, hlt, by go_num, Q1, T1⟩
      case measure => simp [intOf]; omega
    · have g3 : decide ((k : Int) < 3) = false := by simp; omega
      obtain rfl : k = 3 := by omega
      clear hk hlt
      go_wp2_with fail
      have HTW : Hid (Turn f fk w wr) := (Turn.of_below KW.out).trans HTU.out
      have hkp : ∀ b, w.heap.size ≤ b → b < V9.heap.size → wr.heap[b]? = V9.heap[b]? := fun b hb1 hb2 => HTU.out.out b hb2 (fun h => by have := HFL.out b h; omega)
      have hsz9 : x4.heap.size ≤ V9.heap.size := BV9.out.size
      have hg1 : RowC wr B1 23 g.cs := (hkp B1 (by rw [HB1.out]; exact Nat.le_refl _) (Nat.lt_of_lt_of_le R5.out.lt hsz9)).trans (R5.out.below BV9.out)
      have hg9 : RowC wr B9 105 (supC 1 g 0 1) := (hkp B9 HB9.out (Nat.lt_of_lt_of_le R9.out.lt hsz9)).trans (R9.out.below BV9.out)
      have hghl : gh < x4.heap.size := PG.out.lt
      have hgh9 : wr.heap[gh]? = x4.heap[gh]? := (hkp gh HGH.out (by omega)).trans (BV9.out.block gh hghl)
      have hsl : Sl .u8 wr (.slice (some ⟨Bv, ov, none⟩) n cv) bs := HVS.out.same HTW.out.size (fun b e => by cases e; exact HTW.out.out Bv HVF.out.2 HVF.out.1)
      have eb : ∀ z : Ext wr, z.1.cell? ⟨B1, 4, none⟩ = some (.int .i64 gr) := fun z => by rw [← HGR.out]; exact (hg1.below z.2).cell 4 _ rfl
      have es : ∀ z : Ext wr, (loadVar 105 ⟨B9, 0, none⟩).run Tryz.prog z.1 = .ok (.agg sc) z.1 := fun z => by rw [← HSC.out]; exact (hg9.below z.2).sup
      have ep : ∀ z : Ext wr, (loadVar 103 ⟨B9, 6, none⟩).run Tryz.prog z.1 = .ok (.agg #[.int .i64 0, .int .u32 1]) z.1 := fun z => load_spot fun j v hj => by
        match j, hj with
        | 0, hj => simp at hj; rw [← hj]; exact (hg9.below z.2).cell 6 _ rfl
        | 1, hj => simp at hj; rw [← hj]; exact (hg9.below z.2).cell 7 _ rfl
        | j + 2, hj => simp at hj
      have ec6 : ∀ z : Ext wr, z.1.cell? ⟨B9, 6, none⟩ = some (.int .i64 0) := fun z => (hg9.below z.2).cell 6 _ rfl
      have ec7 : ∀ z : Ext wr, z.1.cell? ⟨B9, 7, none⟩ = some (.int .u32 1) := fun z => (hg9.below z.2).cell 7 _ rfl
      have HGHF := Lib.hid hgh9
      have HGHL := Lib.hid hghl
      have HSZ9 := Lib.hid hsz9
      have HSL := Lib.hid hsl
      clear hkp hsz9 hg1 hg9 hghl hgh9 hsl HLST HST
      go_wp2_with fail
      refine region_planN (fun x => ∃ y : Ext wr, x = y.1) 11 (.takes [0, 1, 3, 4, 5, 6, 7, 8] (.one 2 (.take 9 (.one 10 .leaf)))) hmx (by kernel_rfl) ⟨⟨wr.drew, (Below.refl _ wr).drew⟩, rfl⟩ ?_
      repeat (rw [wpPlanN_takes_cons]; simp only [nth_zero, nth_succ]; go_big_quiet_step (fail); refine wpQuiet_nil ?_)
      rw [wpPlanN_takes_nil, wpPlanN_one]
      simp only [nth_zero, nth_succ]
      clear eb es ep ec6 ec7
      obtain ⟨V, hV⟩ : ∃ X, wr.drew = X := ⟨_, rfl⟩
      have BV : Hid (Below wr.heap.size wr V) := by show Below _ _ _; rw [← hV]; exact (Below.refl _ wr).drew
      try rw [hV]
      clear hV
      have hbn0 := HB0.out
      have HCL2 := Lib.hid (cloneBytes V (HSL.out.below BV.out) (by intro e; have h1 := HBN.out; rw [e] at h1; simp at h1; omega) (by have := HBN.out; omega))
      clear hbn0
      go_wp2_with fail
      go_at_call 55
      refine HCL2.out.mono ?_
      rintro e V' ⟨v', rfl, hO, hb⟩
      obtain ⟨Bc, cc, rfl, hBcN, hcc, hBcl, hrg⟩ := own_row hO (by rw [HBN.out]; exact HB0.out.1)
      have hcur : cc ≤ maxLen ∧ ∃ cur, V'.heap[Bc]? = some (.cells cur 5 (0, 0)) := by
        rcases hO.2 with ⟨h', _⟩ | ⟨g', c', cur, e, h1, h2, h3, h4, _⟩
        · cases h'
        · cases e; exact ⟨h4, cur, h2⟩
      have BV' : Hid (Below wr.heap.size wr V') := BV.out.trans (hb.mono BV.out.size)
      have HBB : Hid (wr.heap.size ≤ Bc ∧ bs.length ≤ cc ∧ Bc < V'.heap.size ∧ V'.rangeAt Bc 0 (u8s bs) ∧ cc ≤ maxLen ∧ ∃ cur, V'.heap[Bc]? = some (.cells cur 5 (0, 0))) := ⟨Nat.le_trans BV.out.size hBcN, hcc, hBcl, hrg, hcur.1, hcur.2⟩
      rw [HBN.out]
      clear hO hb hBcN hcc hBcl hrg hcur HCL2
      go_wp2_with fail
      refine planPost_mk ⟨⟨V', BV'.out⟩, rfl⟩ ?_
      rw [wpPlanN_take]
      simp only [nth_zero, nth_succ]
      refine wpQuiet_struct_run _ _ rfl rfl [(0, .pointer (some ⟨rb, 0, none⟩)), (1, .slice (some ⟨Bc, 0, none⟩) n cc), (2, .slice (some ⟨gh, 0, none⟩) P ch), (3, .agg sc), (4, .int .i64 0), (5, .agg #[.int .i64 0, .int .u32 1]), (6, .int .i64 gr)] (.agg (mtC rb (.slice (some ⟨Bc, 0, none⟩) n cc) (.slice (some ⟨gh, 0, none⟩) P ch) 1 g 0 1 0 0 1 gr).toArray) rfl (fun z _ => by rw [← HSC.out]; exact build_mt z rb _ _ _ _ _ _ _ _ _ _ _ _ _ _) ?_
      refine wpQuiet_nil ?_
      rw [wpPlanN_one]
      simp only [nth_zero, nth_succ]
      obtain ⟨mc, hmc⟩ : ∃ c, (mtC rb (.slice (some ⟨Bc, 0, none⟩) n cc) (.slice (some ⟨gh, 0, none⟩) P ch) 1 g 0 1 0 0 1 gr).toArray = c := ⟨_, rfl⟩
      rw [hmc]
      obtain ⟨F, hF⟩ : ∃ y, V'.alloc (.cells mc 120) = y := ⟨_, rfl⟩
      obtain ⟨m, hm'⟩ : ∃ b, V'.heap.size = b := ⟨_, rfl⟩
      have BF : Hid (Below V'.heap.size V' F) := by show Below _ _ _; rw [← hF]; exact below_new V' _
      have BZF : Hid (Below wr.heap.size wr F) := BV'.out.trans (BF.out.mono BV'.out.size)
      have RF : Hid (RowC F m 120 (mtC rb (.slice (some ⟨Bc, 0, none⟩) n cc) (.slice (some ⟨gh, 0, none⟩) P ch) 1 g 0 1 0 0 1 gr)) := by show RowC _ _ _ _; rw [← hF, ← hm', ← hmc]; exact RowC.new V' _ _
      have HMM : Hid (V'.heap.size = m) := hm'
      go_wp2_with fail
      clear hF hm' hmc
      refine planPost_mk ⟨⟨F, BZF.out⟩, rfl⟩ ?_
      rw [wpPlanN_leaf]
      simp only [List.drop_succ_cons, List.drop_zero]
      go_wp2_with fail
      refine bodyPost_ret (results_tmp2 rfl _ _ _) rfl ?_
      have h1 := HTW.out.size
      have h2 := BV'.out.size
      have h5 := HMM.out
      have hBB := HBB.out
      have hghl := HGHL.out
      have h9 := HSZ9.out
      have hgw : w.heap.size ≤ gh := HGH.out
      have h10 := HTU.out.size
      have hgF : F.heap[gh]? = x4.heap[gh]? := (BZF.out.block gh (by omega)).trans HGHF.out
      have hbF : F.heap[Bc]? = V'.heap[Bc]? := BF.out.block Bc (by omega)
      have hlt := (RigR.isRes rb p0 p1 (T 3)).lt HQ.out
      have hgn : ¬ fk gh := fun h => by
        rcases HTU.out.new gh h with h3 | h3
        · have := HFL.out gh h3; omega
        · omega
      refine ⟨m, rfl, fun k => fk k ∨ (k = m ∨ k = Bc ∨ k = gh), ⟨fk, _, HQ.out.beside BZF.out, ⟨Bc, cc, gh, ch, 0, 1, ?_, rfl⟩, fun k hk hm => ?_, rfl⟩, (HTW.out.trans (Turn.of_below BZF.out)).less fun k hk => ?_⟩
      · refine ⟨?_, by omega, by omega, by omega, by show 0 < bs.length; rw [HBN.out]; exact HB0.out.1, by show 0 < (cutL bs).length; rw [HCL.out]; omega, ⟨hBB.2.1, hBB.2.2.2.2.1⟩, ?_, rangeAt_same hBB.2.2.2.1 hbF, ⟨cur, _, hgF.trans HCU.out⟩, rangeAt_same PG.out.at_ hgF⟩
        · show RowC F m _ (mtC rb (.slice (some ⟨Bc, 0, none⟩) bs.length cc) (.slice (some ⟨gh, 0, none⟩) (cutL bs).length ch) 1 g 0 1 ((0 : Nat) : Int) ((0 : Nat) : Int) 1 (g.r - ((0 : Nat) : Int)))
          rw [HBN.out, HCL.out, HGR.out, show gr - ((0 : Nat) : Int) = gr by omega]
          exact RF.out
        · obtain ⟨cur', h⟩ := hBB.2.2.2.2.2
          exact ⟨cur', _, hbF.trans h⟩
      · have h3 := hlt k hk
        rcases hm with rfl | rfl | rfl
        · omega
        · omega
        · exact hgn hk
      · rcases hk with h | rfl | rfl | rfl
        · exact .inl h
        · right; omega
        · right; omega
        · right; exact hgw
end
end Go.Proofs.YtbdfllamhcodjaaGreat

/- The developers' Meta: all that it promises. -/
namespace Go.Proofs.YtbdfllamhcodjaaGreat
open Go.RowKit Go.Shelf
set_option linter.unusedVariables false
attribute [-simp] Tryz.isAgg60 Tryz.zeroValue60 Tryz.isAgg112 Tryz.zeroValue112 Tryz.isAgg189 Tryz.zeroValue189 Tryz.isAgg133 Tryz.zeroValue133 Tryz.isAgg114 Tryz.zeroValue114 Tryz.isAgg105 Tryz.zeroValue105 Tryz.isAgg23 Tryz.zeroValue23
attribute [-go_sem] loadVar storeVar run_equalIn_agg
attribute [local go_sem] zero_blk build_blk zero_bod zero_pg build_pg build_pg0 build_pg2 zero_imgD zero_wr zero_sup zero_geoM build_geoM loadVar_openV storeVar_openV
section
set_option maxRecDepth 100000
set_option maxHeartbeats 20000000
set_option maxRecDepth 100000 in
theorem mvFormat_no {rb p0 p1 : Nat} {S : RS} {w : World} {f : Nat → Prop} (h : RigR rb p0 p1 S w f) (hr : S.Rdy) {g : Geo} (hgi : g.In) {v : Value} {bs : List Int} (hv : Sl .u8 w v bs) (hno : ¬ (g.good ∧ g.oF ≤ S.n0 ∧ g.oW ≤ S.n1 ∧ bs.length = g.bts.toNat)) :
    Calls Tryz.prog 16 #[.pointer (some ⟨rb, 0, none⟩), .agg g.v, v] w fun e w' => e = .returned (.tuple #[.pointer none, .int .i64 1]) ∧ Below w.heap.size w w' := by
  obtain ⟨av, c', rfl, _⟩ := hv
  obtain ⟨W1, hW1⟩ : ∃ W, w.alloc (.cells g.v 23) = W := ⟨_, rfl⟩
  have r1 : RowC W1 w.heap.size 23 g.cs := by rw [← hW1]; exact RowC.new w _ _
  have b1 : Below w.heap.size w W1 := by rw [← hW1]; exact below_new w _
  have HFI := Lib.hid ((h.beside b1).fits g hgi)
  obtain ⟨B1, hB1⟩ : ∃ b, w.heap.size = b := ⟨_, rfl⟩
  rw [hB1] at r1
  have R1 := Lib.hid r1
  have K1 := Lib.hid b1
  have L1 := load_geo r1
  have HGI := Lib.hid hgi
  by_cases hf : g.fitsR S.n0 S.n1
  · rw [decide_eq_true hf] at HFI
    have hN := Geo.nats hf.1
    have hB : Hid (g.oB = g.bts) := (Geo.goodNums hf.1).2.2.2.1
    have hbl : bs.length ≠ g.bts.toNat := fun e => hno ⟨hf.1, hf.2.1, hf.2.2, e⟩
    have g1 : ((bs.length : Int) != g.bts) = true := by
      have := hN.b
      simp only [bne_iff_ne, ne_eq]
      omega
    clear h hr hgi hno hf hN hbl r1 b1
    go_enter Tryz.func16, Tryz.ntmps16
    go_wp2_with fail
    clear hW1 hB1 L1
    go_at_call 46
    refine HFI.out.mono ?_
    rintro e x1 ⟨rfl, hb⟩
    have K2 : Hid (Below w.heap.size w x1) := K1.out.trans (hb.mono K1.out.size)
    have R2 := Lib.hid (R1.out.below hb)
    have L1 := load_geo R2.out
    clear hb R1 HFI
    go_wp2_with fail
    clear L1
    go_at_call 47
    refine (gmBytes g HGI.out x1).mono ?_
    rw [hB.out]
    rintro e x2 ⟨rfl, hb⟩
    have K3 : Hid (Below w.heap.size w x2) := K2.out.trans (hb.mono K2.out.size)
    clear hb R2
    go_wp2_with fail
    refine bodyPost_ret (results_tmp2 rfl _ _ _) rfl ?_
    exact ⟨rfl, K3.out⟩
  · rw [decide_eq_false hf] at HFI
    clear h hr hgi hno hf r1 b1
    go_enter Tryz.func16, Tryz.ntmps16
    go_wp2_with fail
    clear hW1 hB1 L1
    go_at_call 46
    refine HFI.out.mono ?_
    rintro e x1 ⟨rfl, hb⟩
    have K2 : Hid (Below w.heap.size w x1) := K1.out.trans (hb.mono K1.out.size)
    clear hb R1 HFI
    go_wp2_with fail
    refine bodyPost_ret (results_tmp2 rfl _ _ _) rfl ?_
    exact ⟨rfl, K2.out⟩
end
theorem memX_b0 {m rb : Nat} {M : MS} {w : World} {f : Nat → Prop} (h : MemX m rb M w f) : 0 < M.b.length := by
  obtain ⟨_, _, _, _, _, _, h, _⟩ := h
  exact h.b0
/-- **All that the developers' Meta promises.** -/
theorem metaOk : MetaOk theRes where
  format := by
    intro rb p0 p1 S w f h hr hu g hgi hg h0 h1 v bs hv hb hl ha
    refine mvFormat h hr hu hgi hg h0 h1 hv hb hl (ha ?_)
    intro e
    have hN := Geo.nats hg
    have h1 := hN.bp
    have h2 := hN.p1
    rw [e] at hl
    simp at hl
    omega
  format_no := by
    intro rb p0 p1 S w f h hr g hgi v bs hv hno
    exact mvFormat_no h hr hgi hv hno
  open_ := by
    intro rb p0 p1 S w f h hr hu M ho
    exact mvOpen_some h hr hu ho
  open_no := by
    intro rb p0 p1 S w f h hr hu hn ho
    exact mvOpen_no h hr hu hn ho
  open_nil := mvOpen_nil
  bytes := by
    intro m rb M w f h hl _
    exact mvBytes h hl
  bytes_nil := mvBytes_nil
  room := by
    intro m rb M w f h _ _
    exact mvRoom h
  room_nil := mvRoom_nil
  geom := by
    intro m rb M w f h
    exact mvGeom h
  geom_nil := mvGeom_nil
  commit := by
    intro rb p0 p1 m S M w f h hr _ hok v bs hv hb hl ha
    refine mvCommit h hr hok hv hb hl (ha ?_)
    intro e
    obtain ⟨f1, f2, _, h2, _⟩ := h
    have := memX_b0 h2
    rw [e] at hl
    simp at hl
    omega
  commit_no := by
    intro m rb M w f h v bs hv hl
    exact mvCommit_no h hv hl
  commit_nil := by
    intro w v bs hv
    exact mvCommit_nil w hv
end Go.Proofs.YtbdfllamhcodjaaGreat

/- The helper of the statements that brings a number into a range. -/
namespace Go.Proofs.YtbdfllamhcodjaaGreat
open Go.RowKit
set_option linter.unusedVariables false

/-- A number brought into the range from 0 to n - 1. -/
def modI (k n : Int) : Int := if n < 1 then 0 else k % n
theorem modI_bd {k n : Int} (h : 1 ≤ n) : 0 ≤ modI k n ∧ modI k n < n := by
  unfold modI; rw [if_neg (by omega)]
  exact ⟨Int.emod_nonneg _ (by omega), Int.emod_lt_of_pos _ (by omega)⟩

set_option maxRecDepth 100000 in
set_option maxHeartbeats 1000000 in
theorem mod_any (k n : Int) (w : World) (hn : n < 4611686018427387904) :
    Calls Tryz.prog 62 #[.int .i64 k, .int .i64 n] w fun e w' => e = .returned (.int .i64 (modI k n)) ∧ w' = w := by
  by_cases h : n < 1
  · go_enter Tryz.func62, Tryz.ntmps62
    go_wp2
    go_ret
    exact ⟨by simp [modI, h], rfl⟩
  · go_enter Tryz.func62, Tryz.ntmps62
    go_wp2
    have e : (wrap64 (k.tmod n + n)).tmod n = modI k n := by
      have h1 : k.tmod n = k - n * k.tdiv n := by have := Int.mul_tdiv_add_tmod k n; omega
      have h2 : k.tmod n < n := Int.tmod_lt_of_pos k (by omega)
      have h3 : -n < k.tmod n := by
        have := Int.tmod_lt_of_pos (-k) (show 0 < n by omega)
        rw [Int.neg_tmod] at this; omega
      have h4 : wrap64 (k.tmod n + n) = k.tmod n + n := by unfold wrap64; omega
      rw [h4, Int.tmod_eq_emod_of_nonneg (by omega), Int.add_emod_right, h1]
      unfold modI
      rw [if_neg (by omega), Int.sub_mul_emod_self_left]
    rw [e]
    go_ret
    exact ⟨rfl, rfl⟩
end Go.Proofs.YtbdfllamhcodjaaGreat

/- What the statements of layer 8 use: bytes held against bytes, zeros, a light geometry; Metas at a statement. -/
namespace Go.Proofs.YtbdfllamhcodjaaGreat
open Go.RowKit Go.Shelf
set_option linter.unusedVariables false
attribute [-simp] Tryz.isAgg23 Tryz.zeroValue23
attribute [-go_sem] loadVar storeVar run_equalIn_agg

theorem strOf_inj {xs ys : List Int} (hx : IsBytes xs) (hy : IsBytes ys) (h : strOfNums xs = strOfNums ys) : xs = ys := by
  have h1 : (strOfNums xs).data.toList = (strOfNums ys).data.toList := by rw [h]
  rw [strOfNums_data, strOfNums_data] at h1
  have hl : xs.length = ys.length := by have := congrArg List.length h1; simpa using this
  refine List.ext_getElem hl fun i h2 h3 => ?_
  have h4 := congrArg (fun l : List UInt8 => l[i]?) h1
  simp only [List.getElem?_map, List.getElem?_eq_getElem h2, List.getElem?_eq_getElem h3, Option.map_some, Option.some.injEq] at h4
  have bx := hx i
  have by_ := hy i
  rw [List.getElem?_eq_getElem h2, Option.getD_some] at bx
  rw [List.getElem?_eq_getElem h3, Option.getD_some] at by_
  have h5 := congrArg UInt8.toNat h4
  have e : ∀ n : Int, 0 ≤ n → n < 256 → (UInt8.ofNat n.toNat).toNat = n.toNat := fun n h0 h1 => by
    rw [UInt8.toNat_ofNat']
    omega
  rw [e _ bx.1 bx.2, e _ by_.1 by_.2] at h5
  have := bx.1
  have := by_.1
  omega
set_option maxRecDepth 100000 in
set_option maxHeartbeats 2000000 in
/-- **Bytes**: two rows of bytes held against each other. -/
theorem keepBytes (va vb : Value) (xs ys : List Int) (w : World) (ha : Sl .u8 w va xs) (hb : Sl .u8 w vb ys) (hx : IsBytes xs) (hy : IsBytes ys) :
    Calls Tryz.prog 28 #[va, vb] w fun e w' => e = .returned (.bool (decide (xs = ys))) ∧ w' = w := by
  have k1 := conv_sl ha
  have k2 := conv_sl hb
  have heq : ((strOfNums xs).toList == (strOfNums ys).toList) = decide (xs = ys) := by
    by_cases h : xs = ys
    · subst h; simp
    · rw [decide_eq_false h]
      refine beq_eq_false_iff_ne.2 fun e => h (strOf_inj hx hy ?_)
      rw [Lib.strOfNums_toList, Lib.strOfNums_toList] at e
      unfold strOfNums
      rw [show (xs.map fun n => UInt8.ofNat n.toNat) = ys.map fun n => UInt8.ofNat n.toNat from e]
  have HE := Lib.hid heq
  clear ha hb hx hy heq
  go_enter Tryz.func28, Tryz.ntmps28
  go_wp2
  go_ret
  exact ⟨by rw [← HE.out]; rfl, rfl⟩
set_option maxRecDepth 100000 in
theorem eq_geo (g : Geo) (w : World) : (Op.equalIn 10000 23 (.agg g.v) (.agg g.v)).run Tryz.prog w = .ok true w := by
  rw [run_equalIn_struct w 9999 23 _ _ (by kernel_rfl) (by kernel_rfl)]
  have h0 : ∃ f0 f1 f2 f3 f4 : Field, Tryz.prog.fieldsOf 23 = #[f0, f1, f2, f3, f4] ∧ (f0.name ≠ "_" ∧ f0.type = 3 ∧ f0.offset = 0) ∧ (f1.name ≠ "_" ∧ f1.type = 3 ∧ f1.offset = 1) ∧ (f2.name ≠ "_" ∧ f2.type = 3 ∧ f2.offset = 2) ∧ (f3.name ≠ "_" ∧ f3.type = 3 ∧ f3.offset = 3) ∧ (f4.name ≠ "_" ∧ f4.type = 3 ∧ f4.offset = 4) :=
    ⟨_, _, _, _, _, rfl, ⟨by decide, rfl, rfl⟩, ⟨by decide, rfl, rfl⟩, ⟨by decide, rfl, rfl⟩, ⟨by decide, rfl, rfl⟩, ⟨by decide, rfl, rfl⟩⟩
  obtain ⟨f0, f1, f2, f3, f4, h0, ⟨n0, t0, o0⟩, ⟨n1, t1, o1⟩, ⟨n2, t2, o2⟩, ⟨n3, t3, o3⟩, ⟨n4, t4, o4⟩⟩ := h0
  rw [h0]
  simp only [Op.eqFields, Sem.run_bind, if_pos n0, if_pos n1, if_pos n2, if_pos n3, if_pos n4, t0, t1, t2, t3, t4, o0, o1, o2, o3, o4]
  have a0 : g.v[0]? = some (.int .i64 g.b) := rfl
  have a1 : g.v[1]? = some (.int .i64 g.s) := rfl
  have a2 : g.v[2]? = some (.int .i64 g.y) := rfl
  have a3 : g.v[3]? = some (.int .i64 g.a) := rfl
  have a4 : g.v[4]? = some (.int .i64 g.r) := rfl
  rw [part_int Tryz.underlying3 a0, Result.andThen_ok, part_int Tryz.underlying3 a0, Result.andThen_ok, run_equalIn_int w 9998 3 .i64 .i64 _ _ Tryz.underlying3, Result.andThen_ok]
  simp only [beq_self_eq_true, Bool.not_true, Bool.false_eq_true, if_false, Sem.run_bind]
  rw [part_int Tryz.underlying3 a1, Result.andThen_ok, part_int Tryz.underlying3 a1, Result.andThen_ok, run_equalIn_int w 9998 3 .i64 .i64 _ _ Tryz.underlying3, Result.andThen_ok]
  simp only [beq_self_eq_true, Bool.not_true, Bool.false_eq_true, if_false, Sem.run_bind]
  rw [part_int Tryz.underlying3 a2, Result.andThen_ok, part_int Tryz.underlying3 a2, Result.andThen_ok, run_equalIn_int w 9998 3 .i64 .i64 _ _ Tryz.underlying3, Result.andThen_ok]
  simp only [beq_self_eq_true, Bool.not_true, Bool.false_eq_true, if_false, Sem.run_bind]
  rw [part_int Tryz.underlying3 a3, Result.andThen_ok, part_int Tryz.underlying3 a3, Result.andThen_ok, run_equalIn_int w 9998 3 .i64 .i64 _ _ Tryz.underlying3, Result.andThen_ok]
  simp only [beq_self_eq_true, Bool.not_true, Bool.false_eq_true, if_false, Sem.run_bind]
  rw [part_int Tryz.underlying3 a4, Result.andThen_ok, part_int Tryz.underlying3 a4, Result.andThen_ok, run_equalIn_int w 9998 3 .i64 .i64 _ _ Tryz.underlying3, Result.andThen_ok]
  simp only [beq_self_eq_true, Bool.not_true, Bool.false_eq_true, if_false]
  first | rfl | simp
set_option maxRecDepth 100000 in
/-- As many zeros. -/
theorem make_zeros (x : World) (K : Nat) (hK : K ≤ 1000000) : ∃ x', (Instr.makeSlice 37 (.int .i64 (K : Int)) (.int .i64 (K : Int))).run Tryz.prog x = .ok (.slice (some ⟨x.heap.size, 0, none⟩) K K) x' ∧ Sl .u8 x' (.slice (some ⟨x.heap.size, 0, none⟩) K K) (List.replicate K 0) ∧ x.grownBy x' none ∧
    x'.ownsRow x.heap.size 5 1 (.slice (some ⟨x.heap.size, 0, none⟩) K K) K ((List.replicate K 0).map (Value.int .u8)) := by
  obtain ⟨i0, hi, hz0, hz1, hz2⟩ := info_parts info_u8
  obtain ⟨x', r, ho, hg⟩ := run_make_full (P := Tryz.prog) x x.heap.size 37 5 i0 (.int .u8 0) 1 Tryz.underlying37 hi hz0 hz1 .i64 .i64 K (by rw [hz2]; omega) (by unfold maxLen; omega) (Nat.le_refl _)
  rw [show (Value.int IntKind.u8 0).cells = #[.int .u8 0] from rfl, toList_madeCells_one, Nat.mul_one] at ho
  have := Sl.of_owns (bs := List.replicate K 0) (by rw [List.map_replicate, List.length_replicate]; exact ho)
  exact ⟨x', r, this, hg, by rw [List.map_replicate]; exact ho⟩
/-- A light geometry. -/
def Geo.light (g : Geo) : Prop := g.good → g.r ≤ 60 ∧ g.b ≤ 20
instance (g : Geo) : Decidable g.light := by unfold Geo.light; infer_instance
attribute [local go_sem] loadVar_openG storeVar_openG
set_option maxRecDepth 100000 in
set_option maxHeartbeats 4000000 in
theorem lawLight (g : Geo) (w : World) : Calls Tryz.prog 10 #[.agg g.v] w fun e w' => e = .returned (.bool (decide g.light)) ∧ Below w.heap.size w w' := by
  obtain ⟨W, hW⟩ : ∃ W, w.alloc (.cells g.v 23) = W := ⟨_, rfl⟩
  have r : RowC W w.heap.size 23 g.cs := by rw [← hW]; exact RowC.new w _ _
  have HB : Hid (Below w.heap.size w W) := by show Below _ _ _; rw [← hW]; exact below_new w _
  obtain ⟨B, hB⟩ : ∃ b, w.heap.size = b := ⟨_, rfl⟩
  rw [hB] at r
  have HG := Lib.hid (refGood7 g W)
  have L0 := load_geo r
  have HR := Lib.hid r
  obtain ⟨rr, hrr⟩ : ∃ n, g.r = n := ⟨_, rfl⟩
  obtain ⟨bb, hbb⟩ : ∃ n, g.b = n := ⟨_, rfl⟩
  have HC : Hid (∀ x, Below W.heap.size W x → x.cell? ⟨B, 4, none⟩ = some (.int .i64 rr) ∧ x.cell? ⟨B, 0, none⟩ = some (.int .i64 bb)) := fun x hx => by
    have r := HR.out.below hx
    have k4 := r.cell 4 _ rfl
    have k0 := r.cell 0 _ rfl
    rw [hrr] at k4
    rw [hbb] at k0
    exact ⟨k4, k0⟩
  clear r
  by_cases hg : g.good
  · rw [decide_eq_true hg] at HG
    by_cases h1 : rr ≤ 60
    · have g1 : decide (rr ≤ 60) = true := by simpa using h1
      by_cases h2 : bb ≤ 20
      · have g2 : decide (bb ≤ 20) = true := by simpa using h2
        have hv : Hid (decide g.light = true) := decide_eq_true fun _ => ⟨by omega, by omega⟩
        clear hg hrr hbb
        go_enter Tryz.func10, Tryz.ntmps10
        go_wp2_with fail
        refine HG.out.mono ?_
        rintro e x ⟨rfl, hb⟩
        obtain ⟨k4, k0⟩ := HC.out x hb
        have HX : Hid (Below w.heap.size w x) := HB.out.trans (hb.mono HB.out.size)
        clear hb L0
        go_wp2_with fail
        go_ret
        rw [hv.out]
        first | exact ⟨rfl, HX.out⟩ | exact ⟨rfl, by rw [← hB]; exact HX.out⟩
      · have g2 : decide (bb ≤ 20) = false := by simpa using h2
        have hv : Hid (decide g.light = false) := decide_eq_false fun h => by have := (h hg).2; omega
        clear hg hrr hbb
        go_enter Tryz.func10, Tryz.ntmps10
        go_wp2_with fail
        refine HG.out.mono ?_
        rintro e x ⟨rfl, hb⟩
        obtain ⟨k4, k0⟩ := HC.out x hb
        have HX : Hid (Below w.heap.size w x) := HB.out.trans (hb.mono HB.out.size)
        clear hb L0
        go_wp2_with fail
        go_ret
        rw [hv.out]
        first | exact ⟨rfl, HX.out⟩ | exact ⟨rfl, by rw [← hB]; exact HX.out⟩
    · have g1 : decide (rr ≤ 60) = false := by simpa using h1
      have hv : Hid (decide g.light = false) := decide_eq_false fun h => by have := (h hg).1; omega
      clear hg hrr hbb
      go_enter Tryz.func10, Tryz.ntmps10
      go_wp2_with fail
      refine HG.out.mono ?_
      rintro e x ⟨rfl, hb⟩
      obtain ⟨k4, k0⟩ := HC.out x hb
      have HX : Hid (Below w.heap.size w x) := HB.out.trans (hb.mono HB.out.size)
      clear hb L0
      go_wp2_with fail
      go_ret
      rw [hv.out]
      first | exact ⟨rfl, HX.out⟩ | exact ⟨rfl, by rw [← hB]; exact HX.out⟩
  · rw [decide_eq_false hg] at HG
    have hv : Hid (decide g.light = true) := decide_eq_true fun h => absurd h hg
    clear hg hrr hbb
    go_enter Tryz.func10, Tryz.ntmps10
    go_wp2_with fail
    refine HG.out.mono ?_
    rintro e x ⟨rfl, hb⟩
    have HX : Hid (Below w.heap.size w x) := HB.out.trans (hb.mono HB.out.size)
    clear hb L0
    go_wp2_with fail
    go_ret
    rw [hv.out]
    first | exact ⟨rfl, HX.out⟩ | exact ⟨rfl, by rw [← hB]; exact HX.out⟩
end Go.Proofs.YtbdfllamhcodjaaGreat

/- Bytes of which some are turned. -/
namespace Go.Proofs.YtbdfllamhcodjaaGreat
open Go.ChangeShapes Go.WideShapes Go.ChangeAt Go.RowKit Go.Shelf
set_option linter.unusedVariables false

def xb (y p : Int) : Int := bits BinOp.xor IntKind.u8 y (IntKind.u8.wrap p)
theorem xb_bd {y p : Int} (h : 0 ≤ y ∧ y < 256) : 0 ≤ xb y p ∧ xb y p < 256 := by
  have hp : 0 ≤ IntKind.u8.wrap p ∧ IntKind.u8.wrap p < 256 := by
    have h : IntKind.u8.wrap p = p % 256 := by simp [IntKind.wrap, IntKind.bits, IntKind.signed]
    omega
  unfold xb
  rw [u8_xor y _ h.1 h.2 hp.1 hp.2]
  have := Nat.xor_lt_two_pow (n := 8) (show y.toNat < 2 ^ 8 by have := h.2; simp only [Nat.reducePow]; omega) (show (IntKind.u8.wrap p).toNat < 2 ^ 8 by have := hp.2; simp only [Nat.reducePow]; omega)
  simp only [Nat.reducePow] at this
  omega
/-- One byte turned. -/
def stepT (bs : List Int) (p : Int × Int) : List Int := bs.set (modI p.1 bs.length).toNat (xb (bs[(modI p.1 bs.length).toNat]?.getD 0) p.2)
def turnL (bs : List Int) (ps : List (Int × Int)) : List Int := ps.foldl stepT bs
theorem stepT_length (bs : List Int) (p : Int × Int) : (stepT bs p).length = bs.length := by simp [stepT]
theorem turnL_length : ∀ (ps : List (Int × Int)) (bs : List Int), (turnL bs ps).length = bs.length
  | [], _ => rfl
  | p :: ps, bs => by
    show (turnL (stepT bs p) ps).length = _
    rw [turnL_length ps, stepT_length]
theorem turnL_bytes : ∀ (ps : List (Int × Int)) (bs : List Int), IsBytes bs → IsBytes (turnL bs ps)
  | [], _, h => h
  | p :: ps, bs, h => turnL_bytes ps (stepT bs p) (h.set (xb_bd (h _)))
theorem turnL_snoc (bs : List Int) (ps : List (Int × Int)) (p : Int × Int) : turnL bs (ps ++ [p]) = stepT (turnL bs ps) p := by
  unfold turnL
  rw [List.foldl_append]
  rfl
theorem turnL_nil (ps : List (Int × Int)) : turnL [] ps = [] := List.eq_nil_of_length_eq_zero (turnL_length ps [])
/-- What is turned is a row of one's own. -/
def TurnedR (bs : List Int) (ps : List (Int × Int)) (v : Value) (w w' : World) : Prop := bs ≠ [] → ∃ g cap rest, v = .slice (some ⟨g, 0, none⟩) bs.length cap ∧ RowC w' g 5 ((turnL bs ps).map (Value.int .u8) ++ rest) ∧ w.heap.size ≤ g ∧ bs.length ≤ cap ∧ cap ≤ maxLen
set_option maxRecDepth 100000 in
set_option maxHeartbeats 4000000 in
theorem lawTurnedR (vb vl : Value) (bs : List Int) (ps : List (Int × Int)) (w : World) (hb : Sl .u8 w vb bs) (hB : IsBytes bs) (hp : Prs w vl ps) (hl : bs.length ≤ 100000) :
    Calls Tryz.prog 18 #[vb, vl] w fun e w' => ∃ v, e = .returned v ∧ Sl .u8 w' v (turnL bs ps) ∧ Fresh v w w' ∧ TurnedR bs ps v w w' ∧ Below w.heap.size w w' := by
  have hmx : Tryz.prog.follows .mixedOrders = true := by kernel_rfl
  obtain ⟨v', w', HA, HO, HBW⟩ := copy_lit w vb bs hb (by omega)
  obtain ⟨a, pcap, rfl, p1, p2, p3, p4⟩ := hp
  obtain ⟨n, hn⟩ : ∃ n, ps.length = n := ⟨_, rfl⟩
  have HN := Lib.hid hn
  have HM : Hid (n ≤ maxLen) := by show _ ≤ _; omega
  have HP3 := Lib.hid p3
  have HP4 := Lib.hid p4
  have HBB := Lib.hid hB
  rw [hn]
  have hO := HO.out
  clear hb p1 p2 p3 p4 hn hB
  rcases hO.2 with ⟨rfl, h0⟩ | ⟨g, cap, cur, rfl, hg, hcur, hc1, hc2, hc3, hc4⟩
  · obtain rfl : bs = [] := List.eq_nil_of_length_eq_zero h0
    have HS : Hid (Sl .u8 w' (.slice none 0 0) (turnL [] ps)) := by show Sl _ _ _ _; rw [turnL_nil]; exact Sl.nil _ _
    have HF : Hid (Fresh (.slice none 0 0) w w') := fun b off len cap e => by cases e
    have HT : Hid (TurnedR [] ps (.slice none 0 0) w w') := fun h => absurd rfl h
    clear h0 hO HO hl
    go_enter Tryz.func18, Tryz.ntmps18
    go_wp2_with (at_builtin; refine wpList_append_run (.tmp 7) (.tmp 8) 37 rfl rfl _ _ _ rfl rfl HA.out ?_)
    go_loopw [6] (fun i wr => i = .int .i64 0 ∧ wr = w') (fun i _ => 0)
    case atStart => exact ⟨rfl, rfl⟩
    case round =>
      obtain ⟨rfl, rfl⟩ := hrel
      by_cases h0 : n = 0
      · subst h0
        go_wp2
        all_goals (go_ret; exact ⟨_, rfl, HS.out, HF.out, HT.out, HBW.out⟩)
      · have h1 : decide ((0 : Int) < (n : Int)) = true := by simp; omega
        clear h0
        go_wp2
        all_goals (go_ret; exact ⟨_, rfl, HS.out, HF.out, HT.out, HBW.out⟩)
  · obtain ⟨len, hlen⟩ : ∃ n, bs.length = n := ⟨_, rfl⟩
    rw [hlen] at hl hc1 hc4 HA
    have HLEN := Lib.hid hlen
    obtain ⟨rest, hrest⟩ : ∃ rest, cur.toList = bs.map (Value.int .u8) ++ rest := ⟨cur.toList.drop (len * 1), by rw [← hc4, List.take_append_drop]⟩
    have hrow : RowC w' g 5 (bs.map (Value.int .u8) ++ rest) := by
      show w'.heap[g]? = _
      rw [hcur, ← hrest]
    have HG : Hid (w.heap.size ≤ g) := hg
    have HC2 : Hid (cap ≤ maxLen) := hc2
    have HC1 : Hid (len ≤ cap) := hc1
    have hcap : cap ≤ 9223372036854775807 := by unfold maxLen at hc2; omega
    clear hO HO hg hcur hc2 hc3 hc4 hrest hlen
    go_enter Tryz.func18, Tryz.ntmps18
    go_wp2_with (at_builtin; refine wpList_append_run (.tmp 7) (.tmp 8) 37 rfl rfl _ _ _ rfl rfl HA.out ?_)
    go_loopw [6] (fun i wr => ∃ k : Nat, k ≤ n ∧ i = .int .i64 k ∧ Hid (RowC wr g 5 ((turnL bs (ps.take k)).map (Value.int .u8) ++ rest)) ∧ Hid (Below w.heap.size w wr)) (fun i _ => n - (intOf i).toNat)
    case atStart => exact ⟨0, Nat.zero_le _, rfl, hrow, HBW⟩
    case round =>
      obtain ⟨k, hk, rfl, HR, HB⟩ := hrel
      obtain ⟨L, hL⟩ : ∃ L, turnL bs (ps.take k) = L := ⟨_, rfl⟩
      rw [hL] at HR
      have hLl : L.length = len := by rw [← hL, turnL_length, HLEN.out]
      have hLb : IsBytes L := by rw [← hL]; exact turnL_bytes _ _ HBB.out
      have hfin : (k = n ∨ len = 0) → ∃ v : Value, v = .slice (some ⟨g, 0, none⟩) len cap ∧ Sl .u8 wr v (turnL bs ps) ∧ Fresh v w wr ∧ TurnedR bs ps v w wr := fun e => by
        have e2 : turnL bs ps = L := by
          rcases e with e | e
          · rw [← hL, e, ← HN.out, List.take_length]
          · rw [List.eq_nil_of_length_eq_zero (hLl.trans e), List.eq_nil_of_length_eq_zero ((turnL_length ps bs).trans (HLEN.out.trans e))]
        refine ⟨_, rfl, ?_, fun b off l c e => by cases e; exact HG.out, fun _ => ⟨g, cap, rest, by rw [HLEN.out], by rw [e2]; exact HR.out, HG.out, by rw [HLEN.out]; exact HC1.out, HC2.out⟩⟩
        rw [e2]
        have := Sl.at (k := .u8) (w := wr) (b := g) (off := 0) (cap := cap) (bs := L) (by rw [hLl]; exact HC1.out) HC2.out HR.out.lt (fun j hj => by
          refine HR.out.cell _ _ ?_
          rw [Nat.zero_add, List.getElem?_append_left (by simpa using hj), List.getElem?_map, List.getElem?_eq_getElem hj]
          rfl)
        rwa [hLl] at this
      have HFIN := Lib.hid hfin
      clear hfin
      by_cases hlt : k < n
      · have g1 : decide ((k : Int) < (n : Int)) = true := by simp; omega
        by_cases hz : 0 < len
        · have g2 : decide ((0 : Int) < (len : Int)) = true := by simp; omega
          have g2' : decide ((len : Int) > 0) = true := g2
          obtain ⟨p, hp⟩ : ∃ p, ps[k]? = some p := ⟨_, List.getElem?_eq_getElem (by rw [HN.out]; exact hlt)⟩
          obtain ⟨b, off, rfl, q1, q2⟩ : ∃ b off, a = some ⟨b, off, none⟩ ∧ wr.cell? ⟨b, off + k * 2, none⟩ = some (.int .i64 p.1) ∧ wr.cell? ⟨b, off + k * 2 + 1, none⟩ = some (.int .i64 p.2) := by
            rcases HP4.out with e | ⟨b, off, rfl, h5, h6⟩
            · rw [e] at hp; simp at hp
            · exact ⟨b, off, rfl, (HB.out.cell (p := ⟨b, off + k * 2, none⟩) h5).trans (h6 k p hp).1, (HB.out.cell (p := ⟨b, off + k * 2 + 1, none⟩) h5).trans (h6 k p hp).2⟩
          obtain ⟨⟨i1, i2⟩, ⟨i3, i4⟩⟩ := HP3.out p (List.mem_of_getElem? hp)
          obtain ⟨P1, hP1⟩ : ∃ x, p.1 = x := ⟨_, rfl⟩
          obtain ⟨P2, hP2⟩ : ∃ x, p.2 = x := ⟨_, rfl⟩
          rw [hP1] at q1 i1 i2
          rw [hP2] at q2 i3 i4
          obtain ⟨m, hm⟩ : ∃ m : Nat, modI P1 (len : Int) = (m : Int) := ⟨(modI P1 (len : Int)).toNat, by have := (modI_bd (k := P1) (n := (len : Int)) (by omega)).1; omega⟩
          have hml : m < len := by have := (modI_bd (k := P1) (n := (len : Int)) (by omega)).2; omega
          obtain ⟨y, hy⟩ : ∃ y, L[m]?.getD 0 = y := ⟨_, rfl⟩
          have hyb := hLb m
          rw [hy] at hyb
          have d1 : wr.cell? ⟨g, m, none⟩ = some (.int .u8 y) := HR.out.cell m _ (by
            rw [List.getElem?_append_left (by simp; omega), List.getElem?_map, List.getElem?_eq_getElem (by omega), ← hy, List.getElem?_eq_getElem (by omega)]
            rfl)
          have f1 : wr.frozen? ⟨g, m, none⟩ = false := HR.out.frozen m
          have hstep : turnL bs (ps.take (k + 1)) = L.set m (xb y P2) := by
            rw [List.take_succ_eq_append_getElem (by rw [HN.out]; exact hlt), turnL_snoc, hL]
            have hpe : ps[k]'(by rw [HN.out]; exact hlt) = p := Option.some.inj ((List.getElem?_eq_getElem _).symm.trans hp)
            rw [hpe]
            unfold stepT
            rw [hLl, hP1, hP2, hm]
            show L.set m (xb (L[m]?.getD 0) P2) = _
            rw [hy]
          obtain ⟨X, hX⟩ : ∃ X, wr.drew = X := ⟨_, rfl⟩
          have HRX : Hid (RowC X g 5 (L.map (Value.int .u8) ++ rest)) := by show RowC _ _ _ _; rw [← hX]; exact HR.out
          have HBX : Hid (Below w.heap.size w X) := by show Below _ _ _; rw [← hX]; exact HB.out.drew
          have HXE : Hid (Below wr.heap.size wr X) := by show Below _ _ _; rw [← hX]; exact (Below.refl _ wr).drew
          have d2 : X.cell? ⟨g, m, none⟩ = some (.int .u8 y) := by rw [← hX]; exact d1
          have f2 : X.frozen? ⟨g, m, none⟩ = false := HRX.out.frozen m
          have hset := HRX.out.set m (.int .u8 (xb y P2))
          rw [List.set_append_left _ _ (by simp; omega), ← List.map_set, ← hstep] at hset
          have HSET := Lib.hid hset
          have HBS : Hid (Below w.heap.size w (X.setCell ⟨g, m, none⟩ (.int .u8 (xb y P2)))) := HBX.out.setCell HG.out _
          have HW : Hid (wrap64 ((k : Int) + 1) = (k : Int) + 1) := IntWalk.wrap64_in _ (by have := HM.out; unfold maxLen at this; omega)
          have HLT := Lib.hid hlt
          obtain ⟨hy1, hy2⟩ := hyb
          have Q1 : ∀ z : Ext wr, z.1.cell? ⟨b, off + k * 2, none⟩ = some (.int .i64 P1) := fun z => (z.2.cell (p := ⟨b, off + k * 2, none⟩) (by
            rcases HP4.out with e | ⟨b', off', e', h5, h6⟩
            · rw [e] at hp; simp at hp
            · cases e'; exact Nat.lt_of_lt_of_le h5 HB.out.size)).trans q1
          have Q2 : ∀ z : Ext wr, z.1.cell? ⟨b, off + k * 2 + 1, none⟩ = some (.int .i64 P2) := fun z => (z.2.cell (p := ⟨b, off + k * 2 + 1, none⟩) (by
            rcases HP4.out with e | ⟨b', off', e', h5, h6⟩
            · rw [e] at hp; simp at hp
            · cases e'; exact Nat.lt_of_lt_of_le h5 HB.out.size)).trans q2
          have D1 : ∀ z : Ext wr, z.1.cell? ⟨g, m, none⟩ = some (.int .u8 y) := fun z => (z.2.cell (p := ⟨g, m, none⟩) HR.out.lt).trans d1
          have HMO := Lib.hid hm
          clear hL hLl hLb hp hP1 hP2 hm hset hstep hy hlt hk d1 f1 q1 q2
          go_wp2_with fail
          refine region_plan (fun u => ∃ y : Ext wr, u = y.1) 18 (.takes [0, 1, 2, 3, 4, 5, 6, 7, 11, 12, 13, 14, 15, 16] (.one 8 (.takes [9, 10, 17] .leaf))) hmx (by kernel_rfl) (by intro c x v a w h; cases x <;> exact h) ⟨⟨wr.drew, (Below.refl _ wr).drew⟩, rfl⟩ ?_
          rw [hX]
          repeat (rw [wpPlan_takes_cons]; simp only [nth_zero, nth_succ]; go_big_quiet_step (fail); refine wpQuiet_nil ?_)
          rw [wpPlan_takes_nil, wpPlan_one]
          simp only [nth_zero, nth_succ]
          clear hX
          go_wp2_with fail
          refine (mod_any P1 (len : Int) X (by omega)).mono ?_
          rintro e zz ⟨rfl, hz⟩
          obtain rfl := hz.symm
          rw [HMO.out]
          clear hz
          go_wp2_with fail
          refine planPost_mk ⟨⟨X, HXE.out⟩, rfl⟩ ?_
          repeat (rw [wpPlan_takes_cons]; simp only [nth_zero, nth_succ]; go_big_quiet_step (fail); refine wpQuiet_nil ?_)
          rw [wpPlan_takes_nil, wpPlan_leaf]
          simp only [List.drop_succ_cons, List.drop_zero]
          clear Q1 Q2 D1
          go_wp2_with fail
          refine ⟨next_rel (C := fun k' => Hid (RowC _ g 5 ((turnL bs (ps.take k')).map (Value.int .u8) ++ rest)) ∧ Hid (Below w.heap.size w _)) HW.out HLT.out ⟨HSET, HBS⟩, next_lt HW.out HLT.out⟩
        · obtain rfl : len = 0 := by omega
          obtain ⟨v, rfl, hs, hf, ht⟩ := HFIN.out (.inr rfl)
          have HS := Lib.hid hs
          have HF := Lib.hid hf
          have HT := Lib.hid ht
          clear hs hf ht hL hLl hLb hz
          go_wp2_with fail
          all_goals (go_ret; exact ⟨_, rfl, HS.out, HF.out, HT.out, HB.out⟩)
      · obtain rfl : k = n := by omega
        obtain ⟨v, rfl, hs, hf, ht⟩ := HFIN.out (.inl rfl)
        have HS := Lib.hid hs
        have HF := Lib.hid hf
        have HT := Lib.hid ht
        clear hs hf ht hL hLl hLb
        go_wp2_with fail
        all_goals (go_ret; exact ⟨_, rfl, HS.out, HF.out, HT.out, HB.out⟩)
set_option maxRecDepth 100000 in
theorem lawTurned (vb vl : Value) (bs : List Int) (ps : List (Int × Int)) (w : World) (hb : Sl .u8 w vb bs) (hB : IsBytes bs) (hp : Prs w vl ps) (hl : bs.length ≤ 100000) :
    Calls Tryz.prog 18 #[vb, vl] w fun e w' => ∃ v, e = .returned v ∧ Sl .u8 w' v (turnL bs ps) ∧ Fresh v w w' ∧ Below w.heap.size w w' :=
  (lawTurnedR vb vl bs ps w hb hB hp hl).mono fun e w' ⟨v, h1, h2, h3, _, h5⟩ => ⟨v, h1, h2, h3, h5⟩
end Go.Proofs.YtbdfllamhcodjaaGreat

/- Metas at a statement. -/
namespace Go.Proofs.YtbdfllamhcodjaaGreat
open Go.RowKit
set_option linter.unusedVariables false

/-- Bytes that one holds oneself. -/
structure KeptV (own : Nat → Prop) (W : World) (v : Value) (bs : List Int) : Prop where
  sl : Sl .u8 W v bs
  bytes : IsBytes bs
  own : bs ≠ [] → ∀ b off len cap, v = .slice (some ⟨b, off, none⟩) len cap → own b
section
variable {R : MetaRes} {rb p0 p1 m : Nat} {S : RS} {M : MS} {w0 W W' : World} {own own' : Nat → Prop} {v : Value} {bs : List Int} {f : Nat → Prop}
theorem KeptV.over (h : KeptV own W v bs) (hs : W.heap.size ≤ W'.heap.size) (hk : ∀ k, own k → W'.heap[k]? = W.heap[k]?) : KeptV own W' v bs :=
  ⟨h.sl.stay hs fun hn b off len cap e _ => hk b (h.own hn b off len cap e), h.bytes, h.own⟩
theorem KeptV.overA {P : Res} (h : KeptV own W v bs) (hA : AtR P w0 W' own) (hk : ∀ k, own k → W'.heap[k]? = W.heap[k]?) : KeptV own W' v bs := by
  refine ⟨?_, h.bytes, h.own⟩
  obtain ⟨a, cap, rfl, h1, h2, h3, h4⟩ := h.sl
  refine ⟨a, cap, rfl, h1, h2, ?_, h4⟩
  by_cases hn : bs = []
  · exact .inl hn
  · rcases h3 with h3 | ⟨b, off, rfl, h5, h6⟩
    · exact .inl h3
    · have ho := h.own hn b off _ _ rfl
      exact .inr ⟨b, off, rfl, hA.lt ho, fun j hj => (World.cell?_of_block (a := ⟨b, off + j, none⟩) (hk b ho)).trans (h6 j hj)⟩
theorem KeptV.below (h : KeptV own W v bs) (hb : Below W.heap.size W W') : KeptV own W' v bs := ⟨h.sl.below hb, h.bytes, h.own⟩
theorem KeptV.more (h : KeptV own W v bs) (ho : ∀ k, own k → own' k) : KeptV own' W v bs := ⟨h.sl, h.bytes, fun hn b off len cap e => ho b (h.own hn b off len cap e)⟩
theorem KeptV.away (h : KeptV own W v bs) (hf : ∀ k, f k → ¬ own k) : bs ≠ [] → Away v f := fun hn b off len cap e hfb => hf b hfb (h.own hn b off len cap e)
/-- What is new is one's own. -/
def Plus (own : Nat → Prop) (W W' : World) : Nat → Prop := fun k => own k ∨ (W.heap.size ≤ k ∧ k < W'.heap.size)
theorem KeptV.new (h : Sl .u8 W' v bs) (hb : IsBytes bs) (hf : Fresh v W W') : KeptV (Plus own W W') W' v bs := ⟨h, hb, fun hn b off len cap e => .inr ⟨hf b off len cap e, h.lt_of hn e⟩⟩
theorem AtR.plus {P : Res} (hP : IsRes P) (h : AtR P w0 W own) (hb : Below W.heap.size W W') : AtR P w0 W' (Plus own W W') := h.below hP hb _ fun k hk => hk
theorem rowC_over {B : Nat} {t : TypeId} {C : List Value} (hr : RowC W B t C) (hB : own B) (hk : ∀ k, own k → W'.heap[k]? = W.heap[k]?) : RowC W' B t C := (hk B hB).trans hr
theorem AtR.forget {P Q : Res} (hQ : IsRes Q) (h : AtR (Sep P Q) w0 W own) : AtR P w0 W own := by
  obtain ⟨fQ, _, _, h⟩ := h.split hQ
  exact h.less own fun k hk => .inl hk
abbrev MAt (R : MetaRes) (w0 W : World) (rb p0 p1 m : Nat) (S : RS) (M : MS) (own : Nat → Prop) : Prop := AtR (R.Both rb p0 p1 m S M) w0 W own
theorem MAt.rat (h : MAt R w0 W rb p0 p1 m S M own) : RAt w0 W rb p0 p1 S own := AtR.forget (R.isRes _ _ _) h
set_option maxRecDepth 100000 in
theorem RAt.format (HK : MetaOk R) (h : RAt w0 W rb p0 p1 S own) (hr : S.Rdy) (hu : S.Up) {g : Geo} (hi : g.In) (hg : g.good) (h0 : g.oF ≤ S.n0) (h1 : g.oW ≤ S.n1) (hv : KeptV own W v bs) (hl : bs.length = g.bts.toNat) :
    Calls Tryz.prog 16 #[.pointer (some ⟨rb, 0, none⟩), .agg g.v, v] W fun e w' => ∃ m, e = .returned (.tuple #[.pointer (some ⟨m, 0, none⟩), .int .i64 0]) ∧ MAt R w0 w' rb p0 p1 m (S.bat (fmtB g bs)).1 (MS.new g bs) own ∧ (∀ k, own k → w'.heap[k]? = W.heap[k]?) ∧ W.heap.size ≤ w'.heap.size := by
  obtain ⟨f, g1, g2, g3, g4⟩ := h
  refine (HK.format g1 hr hu hi hg h0 h1 hv.sl hv.bytes hl (hv.away fun k hk => (g2 k hk).2)).mono ?_
  rintro e w' ⟨m, rfl, h⟩
  have hs : W.heap.size ≤ w'.heap.size := by obtain ⟨f', _, t⟩ := h; exact t.size
  obtain ⟨k1, k2⟩ := AtR.turned (R.both _ _ _ _ _ _) g2 g3 g4 h
  exact ⟨m, rfl, k1, k2, hs⟩
set_option maxRecDepth 100000 in
theorem RAt.openM (HK : MetaOk R) (h : RAt w0 W rb p0 p1 S own) (hr : S.Rdy) (hu : S.Up) (ho : S.opn = some M) :
    Calls Tryz.prog 26 #[.pointer (some ⟨rb, 0, none⟩)] W fun e w' => ∃ m, e = .returned (.tuple #[.pointer (some ⟨m, 0, none⟩), .int .i64 0]) ∧ MAt R w0 w' rb p0 p1 m S M own ∧ (∀ k, own k → w'.heap[k]? = W.heap[k]?) ∧ W.heap.size ≤ w'.heap.size := by
  obtain ⟨f, g1, g2, g3, g4⟩ := h
  refine (HK.open_ g1 hr hu ho).mono ?_
  rintro e w' ⟨m, rfl, h⟩
  have hs : W.heap.size ≤ w'.heap.size := by obtain ⟨f', _, t⟩ := h; exact t.size
  obtain ⟨k1, k2⟩ := AtR.turned (R.both _ _ _ _ _ _) g2 g3 g4 h
  exact ⟨m, rfl, k1, k2, hs⟩
theorem MAt.mem (h : MAt R w0 W rb p0 p1 m S M own) : ∃ f, R.Mem m rb M W f := by
  obtain ⟨f, ⟨f1, f2, h1, h2, _⟩, _⟩ := h
  exact ⟨f2, h2⟩
set_option maxRecDepth 100000 in
/-- **Commit**. -/
theorem MAt.commit (HK : MetaOk R) (h : MAt R w0 W rb p0 p1 m S M own) (hr : S.Rdy) (hd : S.down = false) (hM : M.Ok S) (hv : KeptV own W v bs) (hl : bs.length = M.b.length) {T : RS} {E : Int} (hc : S.cmt M bs = (T, E)) :
    Calls Tryz.prog 19 #[.pointer (some ⟨m, 0, none⟩), v] W fun e w' => e = .returned (.int .i64 E) ∧ (E = 0 → MAt R w0 w' rb p0 p1 m T (M.next bs) own) ∧ RAt w0 w' rb p0 p1 T own ∧ (∀ k, own k → w'.heap[k]? = W.heap[k]?) ∧ W.heap.size ≤ w'.heap.size := by
  obtain ⟨f, g1, g2, g3, g4⟩ := h
  refine (HK.commit g1 hr hd hM hv.sl hv.bytes hl (hv.away fun k hk => (g2 k hk).2)).mono ?_
  rintro e w' ⟨rfl, h⟩
  rw [hc] at h ⊢
  dsimp only at h ⊢
  have hs : W.heap.size ≤ w'.heap.size := by obtain ⟨f', _, t⟩ := h; exact t.size
  by_cases hE : E = 0
  · rw [if_pos hE] at h
    obtain ⟨k1, k2⟩ := AtR.turned (R.both _ _ _ _ _ _) g2 g3 g4 h
    exact ⟨rfl, fun _ => k1, MAt.rat k1, k2, hs⟩
  · rw [if_neg hE] at h
    obtain ⟨k1, k2⟩ := AtR.turned (RigR.isRes _ _ _ _) g2 g3 g4 h
    exact ⟨rfl, fun e => absurd e hE, k1, k2, hs⟩
set_option maxRecDepth 100000 in
/-- What turns the rig alone leaves a Meta as it is. -/
theorem MAt.onRig {g : FuncId} {args : Array Value} {T : RS} {e0 : Ending} (h : MAt R w0 W rb p0 p1 m S M own)
    (hc : ∀ own, RAt w0 W rb p0 p1 S own → Calls Tryz.prog g args W fun e w' => e = e0 ∧ RAt w0 w' rb p0 p1 T own ∧ ∀ k, own k → w'.heap[k]? = W.heap[k]?) (hs : True) :
    Calls Tryz.prog g args W fun e w' => e = e0 ∧ MAt R w0 w' rb p0 p1 m T M own ∧ ∀ k, own k → w'.heap[k]? = W.heap[k]? := by
  obtain ⟨fQ, q1, q2, hP⟩ := h.split (R.isRes _ _ _)
  refine (hc _ hP).mono ?_
  rintro e w' ⟨rfl, a, b⟩
  exact ⟨rfl, AtR.join ((R.isRes _ _ _).out q1 fun k hk => b k (.inr hk)) q2 a, fun k hk => b k (.inl hk)⟩
set_option maxRecDepth 100000 in
theorem MAt.arm (h : MAt R w0 W rb p0 p1 m S M own) (n : Int) :
    Calls Tryz.prog 36 #[.pointer (some ⟨rb, 0, none⟩), .int .i64 n] W fun e w' => e = .returned (.tuple #[]) ∧ MAt R w0 w' rb p0 p1 m { S with fuse := n } M own ∧ ∀ k, own k → w'.heap[k]? = W.heap[k]? :=
  h.onRig (fun _ h => h.arm n) trivial
theorem MS.Ok.fuse {n : Int} (h : M.Ok S) : M.Ok { S with fuse := n } := ⟨h.good, h.n0, h.n1, h.sup1, h.gen, h.seq, h.at0, h.used, h.homl, h.homb, h.len, h.bytes⟩
set_option maxRecDepth 100000 in
/-- A copy by append to an empty literal, at a statement. -/
theorem copy_kept (hs : Sl .u8 W v bs) (hb : IsBytes bs) (hl : bs.length ≤ 100000) (own : Nat → Prop) : ∃ v' W', Hid ((Builtin.append_ #[37, 37] 37 #[.slice (some ⟨W.heap.size, 0, none⟩) 0 0, v]).run Tryz.prog (W.alloc (.cells #[] 5)) = .ok v' W') ∧ Hid (KeptV (Plus own W W') W' v' bs) ∧ Hid (Below W.heap.size W W') := by
  obtain ⟨v', W', h1, h2, h3⟩ := copy_lit W v bs hs (by omega)
  refine ⟨v', W', h1, ⟨Sl.of_owns h2.out, hb, fun hn b off len cap e => .inr ?_⟩, h3⟩
  rcases h2.out.2 with ⟨e', h0⟩ | ⟨g, cap', cur, e', hg, hcur, _⟩
  · exact absurd (List.eq_nil_of_length_eq_zero h0) hn
  · rw [e] at e'
    cases e'
    exact ⟨hg, (Array.getElem?_eq_some_iff.1 hcur).1⟩
end
end Go.Proofs.YtbdfllamhcodjaaGreat

/- A rig with a Meta, commit by commit: what may be relied on. -/
namespace Go.Proofs.YtbdfllamhcodjaaGreat
open Go.RowKit
set_option linter.unusedVariables false

structure Sit (S : RS) (M : MS) (k : Nat) : Prop where
  inv : ∃ p q us, Inv S M (2 * k) p q us
  up : S.Up
  n0 : S.n0 ≤ 4096
  n1 : S.n1 ≤ 4096
  d0 : 0 ≤ S.done
  d1 : S.done ≤ 1000 + 40 * k
  few : S.Few 10
section
variable {S T : RS} {M : MS} {k : Nat} {b : List Int}
theorem Sit.bb (h : Sit S M k) : S.BB := by obtain ⟨p, q, us, h⟩ := h.inv; exact h.bb
theorem Sit.rdy (h : Sit S M k) (hk : k ≤ 200) : S.Rdy := ⟨h.n0, h.n1, h.d0, by have := h.d1; omega, by rw [h.up.fuse]; omega, h.few.mono (by omega), h.bb⟩
theorem Sit.ok (h : Sit S M k) (hk : k ≤ 200) : M.Ok S := by obtain ⟨p, q, us, h⟩ := h.inv; exact h.ok (by omega)
theorem Sit.opn (h : Sit S M k) (hk : k ≤ 200) : S.opn = some M := by obtain ⟨p, q, us, h⟩ := h.inv; exact h.opn (by omega)
theorem Sit.len (h : Sit S M k) : M.b.length = M.g.bts.toNat ∧ M.g.bts.toNat ≤ 714 := by
  obtain ⟨p, q, us, h⟩ := h.inv
  exact ⟨h.len, (Geo.nats h.good).b2⟩
theorem Sit.bytes (h : Sit S M k) : IsBytes M.b := by obtain ⟨p, q, us, h⟩ := h.inv; exact h.bytes
theorem Sit.good (h : Sit S M k) : M.g.good := by obtain ⟨p, q, us, h⟩ := h.inv; exact h.good
theorem Sit.used (h : Sit S M k) : M.used ≤ M.g.C := by obtain ⟨p, q, us, h⟩ := h.inv; rw [h.used]; exact h.ring.fits
theorem Sit.next_b (h : Sit S M k) (hl : b.length = M.b.length) : (M.next b).b = b := by obtain ⟨p, q, us, h⟩ := h.inv; exact h.next_b hl
theorem Sit.commit (h : Sit S M k) (hk : k ≤ 200) (hl : b.length = M.b.length) (hb : IsBytes b) : ∃ T, S.cmt M b = (T, 0) ∧ Sit T (M.next b) (k + 1) := by
  obtain ⟨p, q, us, hI⟩ := h.inv
  obtain ⟨T, hT, hu, t0, t1, p', q', us', hI'⟩ := hI.cmt_up h.up (by omega) hl hb
  have hlt := fun l hl' x hx => (hI.bats_ok (by omega) hl hb l hl').lt x hx
  obtain ⟨w1, w2, w3⟩ := RS.bat_way (M.bats b) S
  obtain ⟨v1, v2, v3⟩ := RS.bat_D1 (M.bats b) S hlt
  have ht := MS.bats_total hI hl
  have hT' : S.bat (M.bats b) = (T, 0) := hT
  rw [hT'] at w1 w2 v1 v2 v3
  dsimp only at w1 w2 v1 v2 v3
  have := h.d0
  have := h.d1
  exact ⟨T, hT, ⟨p', q', us', by rw [show 2 * (k + 1) = 2 * k + 2 by omega]; exact hI'⟩, hu, by rw [t0]; exact h.n0, by rw [t1]; exact h.n1, by omega, by omega, few_dry hI'.dry h.few v1 v3⟩
/-- Cut, or not; then a crash. -/
theorem Sit.cut (h : Sit S M k) (hk : k ≤ 200) (hl : b.length = M.b.length) (hb : IsBytes b) (F : Int) (hF : F ≤ 1000000) (b0 b1 : List Int) :
    ∃ T e, ({ S with fuse := F } : RS).cmt M b = (T, e) ∧ (e = 0 ∨ e = 14) ∧ T.Few 1000000 ∧ ({ S with fuse := F } : RS).Rdy ∧ ∃ M', Sit (T.crash b0 b1) M' (k + 1) ∧ M'.g = M.g ∧ (M'.b = M.b ∨ M'.b = b) ∧ (e = 0 → M'.b = b) := by
  obtain ⟨p, q, us, hI0⟩ := h.inv
  have hI : Inv { S with fuse := F } M (2 * k) p q us := ⟨hI0.good, hI0.n0, hI0.n1, hI0.dry, hI0.bb, hI0.sup1, hI0.sb, hI0.other, hI0.gen, hI0.homl, hI0.homb, hI0.hom, ⟨hI0.ring.room, hI0.ring.two, hI0.ring.most, hI0.ring.at0, hI0.ring.seq, hI0.ring.ok, hI0.ring.fits, hI0.ring.lay⟩, hI0.q, hI0.junk, hI0.at0, hI0.seq, hI0.used, hI0.len, hI0.bytes, hI0.rows⟩
  obtain ⟨T, e, hT, t0, t1, tb, hc⟩ := hI.cmt (by omega) hl hb
  have hlt := fun l hl' x hx => (hI.bats_ok (by omega) hl hb l hl').lt x hx
  obtain ⟨w1, w2, w3⟩ := RS.bat_way (M.bats b) { S with fuse := F }
  have ht := MS.bats_total hI hl
  have hf := RS.bat_few (M.bats b) (S := { S with fuse := F }) (m := 10) h.few (by omega)
  have hT' : ({ S with fuse := F } : RS).bat (M.bats b) = (T, e) := hT
  rw [hT'] at w1 w2 hf
  dsimp only at w1 w2 hf
  have := h.d0
  have := h.d1
  have mk : ∀ M', (∃ p q us, Inv (T.crash b0 b1) M' (2 * k + 2) p q us) → Sit (T.crash b0 b1) M' (k + 1) := fun M' hM => by
    have hn0 : (T.crash b0 b1).n0 = S.n0 := t0
    have hn1 : (T.crash b0 b1).n1 = S.n1 := t1
    have hdn : (T.crash b0 b1).done = T.done := (RS.crash_up T b0 b1).2
    exact ⟨by rw [show 2 * (k + 1) = 2 * k + 2 by omega]; exact hM, (RS.crash_up T b0 b1).1, by rw [hn0]; exact h.n0, by rw [hn1]; exact h.n1, by rw [hdn]; omega, by rw [hdn]; omega, RS.few_crash T b0 b1 10⟩
  refine ⟨T, e, hT, ?_, hf.mono (by omega), ⟨h.n0, h.n1, h.d0, by show S.done ≤ 500000; omega, hF, h.few.mono (by omega), h.bb⟩, ?_⟩
  · rcases hc with ⟨he, _⟩ | ⟨he, _⟩
    · exact .inl he
    · exact .inr he
  · rcases hc with ⟨he, p', q', us', hI'⟩ | ⟨he, hG⟩
    · exact ⟨M.next b, mk _ ⟨p', q', us', hI'.same (RS.crash_dry hI'.dry hI'.bb b0 b1)⟩, MS.next_g M b, .inr (h.next_b hl), fun _ => h.next_b hl⟩
    · obtain ⟨M', p', q', us', hI', e1, e2⟩ := hG b0 b1
      exact ⟨M', mk _ ⟨p', q', us', hI'⟩, e1, e2, fun h0 => by omega⟩
theorem newS_dry (n0 n1 : Nat) : (newS n0 n1).Dry := fun i _ => rfl
/-- **Format** of a new rig. -/
theorem Sit.fmt {n0 n1 : Nat} (h0 : n0 ≤ 4096) (h1 : n1 ≤ 4096) {g : Geo} (hg : g.good) (hf : g.oF ≤ n0) (hw : g.oW ≤ n1) (hl : b.length = g.bts.toNat) (hb : IsBytes b) : Sit ((newS n0 n1).bat (fmtB g b)).1 (MS.new g b) 0 := by
  obtain ⟨T, hT, hu, t0, t1, hI⟩ := RS.fmt (S := newS n0 n1) (newS_up n0 n1) (newS_dry n0 n1) (newS_bb n0 n1) hg hf hw hl hb
  have hok := fmt_ok (S := newS n0 n1) hg hf hb
  obtain ⟨w1, w2, w3⟩ := RS.bat_way (fmtB g b) (newS n0 n1)
  obtain ⟨v1, v2, v3⟩ := RS.bat_D1 (fmtB g b) (newS n0 n1) fun l hl' x hx => (hok l hl').lt x hx
  have hN := Geo.nats hg
  have ht : totalW (fmtB g b) ≤ 300 := by
    have := hN.c2
    have := hN.p2
    unfold totalW fmtB
    simp
    omega
  rw [hT] at w1 w2 v1 v2 v3 ⊢
  have e0 : (newS n0 n1).done = 0 := rfl
  dsimp only at w1 w2 v1 v2 v3 ⊢
  rw [e0] at w1 w2
  exact ⟨⟨0, 1, [], hI⟩, hu, by rw [t0]; exact h0, by rw [t1]; exact h1, w1, by omega, few_dry hI.dry (few_newS n0 n1 10) v1 v3⟩
theorem Sit.crash (h : Sit S M k) (b0 b1 : List Int) : Sit (S.crash b0 b1) M k := by
  obtain ⟨p, q, us, hI⟩ := h.inv
  exact ⟨⟨p, q, us, hI.same (RS.crash_dry hI.dry hI.bb b0 b1)⟩, (RS.crash_up S b0 b1).1, h.n0, h.n1, by rw [(RS.crash_up S b0 b1).2]; exact h.d0, by rw [(RS.crash_up S b0 b1).2]; exact h.d1, RS.few_crash S b0 b1 10⟩
end
end Go.Proofs.YtbdfllamhcodjaaGreat

/- The trial of layer 7 comes to true. -/
namespace Go.Proofs.YtbdfllamhcodjaaGreat
open Go.RowKit Go.Shelf
set_option linter.unusedVariables false
attribute [-simp] Tryz.isAgg39 Tryz.zeroValue39 Tryz.isAgg23 Tryz.zeroValue23
attribute [-go_sem] loadVar storeVar
set_option maxRecDepth 100000 in
theorem zero_geo (w : World) : (zeroValue 23).run Tryz.prog w = .ok (.agg (Geo.mk 0 0 0 0 0).v) w := by kernel_rfl
def gS : Geo := ⟨8, 2, 2, 4, 12⟩
set_option maxRecDepth 100000 in
theorem build_gS (w : World) : (Instr.build 23 #[(0, .int .i64 8), (1, .int .i64 2), (2, .int .i64 2), (3, .int .i64 4), (4, .int .i64 12)]).run Tryz.prog w = .ok (.agg gS.v) w := by kernel_rfl
def gN : Geo := ⟨8, 2, 2, 4, 4⟩
set_option maxRecDepth 100000 in
theorem build_gN (w : World) : (Instr.build 23 #[(0, .int .i64 8), (1, .int .i64 2), (2, .int .i64 2), (3, .int .i64 4), (4, .int .i64 4)]).run Tryz.prog w = .ok (.agg gN.v) w := by kernel_rfl
theorem setS : ((((((Geo.mk 0 0 0 0 0).v.setIfInBounds 0 (.int .i64 8)).setIfInBounds 1 (.int .i64 2)).setIfInBounds 2 (.int .i64 2)).setIfInBounds 3 (.int .i64 4)).setIfInBounds 4 (.int .i64 12)) = gS.v := rfl
set_option maxRecDepth 100000 in
theorem size_geo : (Tryz.prog.info? 23).map (·.size) = some 5 := by kernel_rfl
set_option maxRecDepth 100000 in
theorem new_geo (x : World) (g : Geo) : ∃ y, (storeVar 23 ⟨x.heap.size, 0, none⟩ (.agg g.v)).run Tryz.prog (x.alloc (.cells (Geo.mk 0 0 0 0 0).v 23)) = .ok () y ∧ RowC y x.heap.size 23 g.cs ∧ Below x.heap.size x y :=
  ⟨_, run_storeVar_new x _ _ g.v size_geo rfl (by kernel_rfl), RowC.new x _ _, below_new x _⟩
attribute [local go_sem] loadVar_openG storeVar_openG zero_geo build_gS build_gN
theorem gS_in : gS.In := by intro n hn; simp only [gS, List.mem_cons, List.mem_nil_iff, or_false] at hn; omega
section
set_option maxRecDepth 100000
set_option maxHeartbeats 4000000
set_option maxRecDepth 100000 in
theorem lawSmall (w : World) : Calls Tryz.prog 41 #[] w fun e w' => e = .returned (.agg gS.v) ∧ Below w.heap.size w w' := by
  obtain ⟨y, ST, hr, hb⟩ := new_geo w gS
  rw [← setS] at ST
  have L0 := load_geo hr
  go_enter Tryz.func41, Tryz.ntmps41
  go_wp2_with fail
  exact bodyPost_ret (results_cell rfl rfl L0) rfl ⟨rfl, hb⟩
end
end Go.Proofs.YtbdfllamhcodjaaGreat

/- The trial of layer 8 comes to true. -/
namespace Go.Proofs.YtbdfllamhcodjaaGreat
open Go.RowKit Go.Shelf
set_option linter.unusedVariables false
attribute [-simp] Tryz.isAgg23 Tryz.zeroValue23 Tryz.isAgg60 Tryz.zeroValue60
attribute [-go_sem] loadVar storeVar run_equalIn_agg
theorem loadVar_open9 (t : TypeId) (h : t ≠ 23 ∧ t ≠ 60) (a : Addr) : loadVar t a = (do if ← isAgg t then pure (.agg (← loadCells a (← sizeOf t))) else load a) := rfl
theorem storeVar_open9 (t : TypeId) (h : t ≠ 23 ∧ t ≠ 60) (a : Addr) (v : Value) : storeVar t a v = (do
    if v.cells.size ≠ (← sizeOf t) then stuck "storeVar: the value has not the size of the variable"
    storeCells a v.cells.toList) := rfl
attribute [local go_sem] loadVar_open9 storeVar_open9 zero_geo

def kB0 : List Int := List.replicate 126 0
def kB1 : List Int := kB0.set 50 7
def kM1 : MS := MS.new gS kB0
theorem gS_good : gS.good := by decide
theorem kB0_bytes : IsBytes kB0 := zeros_bytes 126
theorem kB1_bytes : IsBytes kB1 := kB0_bytes.set (by omega)
theorem kM1_dif : (kM1.dif kB1).length = 1 ∧ kM1.dif kB1 ≠ [] := by
  have h : (kM1.dif kB1).length = 1 := by decide +kernel
  exact ⟨h, fun e => by rw [e] at h; cases h⟩
theorem kM1_room : kM1.room = 12 := by decide
theorem kM2_room : (kM1.next kB1).room = 10 := by
  have hf : ¬ kM1.full kB1 := by
    unfold MS.full
    rw [kM1_dif.1, kM1_room]
    decide
  unfold MS.next
  rw [if_neg kM1_dif.2, if_neg hf]
  unfold MS.room MS.app
  show gS.r - ((kM1.used + (kM1.dif kB1).length + 1 : Nat) : Int) = 10
  rw [kM1_dif.1]
  decide
section
set_option maxRecDepth 100000
set_option maxHeartbeats 8000000
set_option maxRecDepth 100000 in
theorem metaWakes {R : MetaRes} (HK : MetaOk R) (w : World) : Calls Tryz.prog 12 #[] w fun e w' => e = .returned (.bool true) ∧ Below w.heap.size w w' := by
  have hmx : Tryz.prog.follows .mixedOrders = true := by kernel_rfl
  have HKH := Lib.hid HK
  clear HK
  go_enter Tryz.func12, Tryz.ntmps12
  go_wp2_with fail
  refine (lawSmall w).mono ?_
  rintro e x ⟨rfl, hb⟩
  obtain ⟨y, ST, hr, hby⟩ := new_geo x gS
  obtain ⟨G, hG⟩ : ∃ b, x.heap.size = b := ⟨_, rfl⟩
  have HBY : Hid (Below w.heap.size w y) := hb.trans (hby.mono hb.size)
  rw [hG] at hr ST
  have HRG := Lib.hid hr
  clear hb hr hby
  go_wp2_with fail
  have hnew := RAt.new 30 20 w y HBY.out (by decide) (by decide) (by decide) (by decide) (fun k => k = G) (fun k hk => by rw [hk]; exact HRG.out.lt)
  refine hnew.mono ?_
  rintro e x1 ⟨rb, p0, p1, rfl, hR1, hb1⟩
  have HR1 := Lib.hid hR1
  have HG1 := Lib.hid (HRG.out.below hb1)
  clear hnew hR1 hb1 ST
  obtain ⟨x2, hmk, hs2, hg2, ho2⟩ := make_zeros x1 126 (by decide)
  have HMK : Hid ((Instr.makeSlice 37 (.int .i64 126) (.int .i64 126)).run Tryz.prog x1 = .ok (.slice (some ⟨x1.heap.size, 0, none⟩) 126 126) x2) := hmk
  obtain ⟨B, hB⟩ : ∃ b, x1.heap.size = b := ⟨_, rfl⟩
  have hb12 : Below x1.heap.size x1 x2 := (Below.refl _ _).grown hg2 (Nat.le_refl _) (fun k e => by cases e)
  have hrow : RowC x2 B 5 (kB0.map (Value.int .u8)) := by
    rcases ho2.2 with ⟨e, _⟩ | ⟨g, cap, cur, e, _, hcur, _, _, hsz, htk⟩
    · cases e
    · simp only [Value.slice.injEq, Option.some.injEq, Addr.mk.injEq] at e
      obtain ⟨⟨rfl, _⟩, _, rfl⟩ := e
      show x2.heap[B]? = _
      rw [← hB, hcur]
      have e2 : cur.toList = kB0.map (Value.int .u8) := by
        unfold kB0
        rw [← htk, List.take_of_length_le (by rw [Array.length_toList, hsz]; exact Nat.le_refl _)]
      rw [← e2]
  have hR2 : RAt w x2 rb p0 p1 (newS 30 20) (Plus (fun k => k = G) x1 x2) := AtR.plus (RigR.isRes _ _ _ _) HR1.out hb12
  have hK2 : KeptV (Plus (fun k => k = G) x1 x2) x2 (.slice (some ⟨x1.heap.size, 0, none⟩) 126 126) kB0 := KeptV.new hs2 kB0_bytes fun b off len cap e => by cases e; exact Nat.le_refl _
  have hoB : Plus (fun k => k = G) x1 x2 B := .inr ⟨by rw [hB]; exact Nat.le_refl _, hrow.lt⟩
  obtain ⟨own, hown⟩ : ∃ o, Plus (fun k => k = G) x1 x2 = o := ⟨_, rfl⟩
  have hoG : own G := by rw [← hown]; exact .inl rfl
  rw [hown] at hR2 hK2 hoB
  rw [hB] at hK2 HMK
  have HR2 := Lib.hid hR2
  have HK2 := Lib.hid hK2
  have HROW2 := Lib.hid hrow
  have HG2 : Hid (RowC x2 G 23 gS.cs) := HG1.out.below hb12
  have HOB := Lib.hid hoB
  have HOG := Lib.hid hoG
  have L2 := load_geo HG2.out
  have hBG : Hid (w.heap.size ≤ B) := by show _ ≤ _; rw [← hB]; exact HR1.out.size
  clear hmk hs2 hg2 ho2 hb12 hrow hR2 hK2 hoB hoG hown
  go_wp2_with ((with_reducible refine gate_make ?_); refine wpList_make_run _ _ _ rfl rfl _ _ _ rfl rfl HMK.out ?_)
  have hfm := RAt.format HKH.out HR2.out ⟨by decide, by decide, Int.le_refl _, by decide, by decide, few_newS _ _ _, newS_bb _ _⟩ (newS_up _ _) gS_in gS_good (by decide) (by decide) HK2.out (by decide)
  refine hfm.mono ?_
  rintro e x3 ⟨m, rfl, hM3, hk3, hsz3⟩
  have HS3 := Lib.hid (Sit.fmt (n0 := 30) (n1 := 20) (g := gS) (b := kB0) (by decide) (by decide) gS_good (by decide) (by decide) (by decide) kB0_bytes)
  obtain ⟨S3, hS3⟩ : ∃ S, ((newS 30 20).bat (fmtB gS kB0)).1 = S := ⟨_, rfl⟩
  rw [hS3] at hM3 HS3
  have HS3 : Hid (Sit S3 kM1 0) := HS3
  have HM3 : Hid (MAt R w x3 rb p0 p1 m S3 kM1 own) := hM3
  have HROW3 : Hid (RowC x3 B 5 (kB0.map (Value.int .u8))) := rowC_over HROW2.out HOB.out hk3
  have HG3 : Hid (RowC x3 G 23 gS.cs) := rowC_over HG2.out HOG.out hk3
  have d3 : x3.cell? ⟨B, 50, none⟩ = some (.int .u8 0) := HROW3.out.cell 50 _ rfl
  have f3 : x3.frozen? ⟨B, 50, none⟩ = false := HROW3.out.frozen 50
  obtain ⟨x4, hx4⟩ : ∃ x, x3.setCell ⟨B, 50, none⟩ (.int .u8 7) = x := ⟨_, rfl⟩
  have HROW4 : Hid (RowC x4 B 5 (kB1.map (Value.int .u8))) := by
    show RowC _ _ _ _
    rw [← hx4]
    have := HROW3.out.set 50 (.int .u8 7)
    rw [← List.map_set] at this
    exact this
  have HM4 : Hid (MAt R w x4 rb p0 p1 m S3 kM1 own) := by
    show MAt _ _ _ _ _ _ _ _ _ _
    rw [← hx4]
    exact AtR.setCell (R.both _ _ _ _ _ _) HM3.out HOB.out hBG.out _
  have HK4 : Hid (KeptV own x4 (.slice (some ⟨B, 0, none⟩) 126 126) kB1) := by
    refine ⟨?_, kB1_bytes, fun _ b off len cap e => by cases e; exact HOB.out⟩
    have := Sl.at (k := .u8) (w := x4) (b := B) (off := 0) (cap := 126) (bs := kB1) (by decide) (by unfold maxLen; decide) HROW4.out.lt (fun j hj => by
      refine HROW4.out.cell _ _ ?_
      rw [Nat.zero_add, List.getElem?_map, List.getElem?_eq_getElem hj]
      rfl)
    exact this
  have HG4 : Hid (RowC x4 G 23 gS.cs) := by
    show RowC _ _ _ _
    rw [← hx4]
    have hne : G ≠ B := by
      have := HG1.out.lt
      omega
    exact (Below.heap_setCell x3 ⟨B, 50, none⟩ _ G hne).trans HG3.out
  clear hfm hM3 hk3 hsz3 L2 hS3
  go_wp2_with fail
  obtain ⟨f4, hf4⟩ := HM4.out.mem
  refine (HKH.out.room hf4 gS_good (by decide)).mono ?_
  rintro e x5 ⟨rfl, hb5⟩
  rw [kM1_room]
  have HM5 : Hid (MAt R w x5 rb p0 p1 m S3 kM1 own) := AtR.beside (R.both _ _ _ _ _ _) HM4.out hb5
  have HK5 : Hid (KeptV own x5 (.slice (some ⟨B, 0, none⟩) 126 126) kB1) := HK4.out.below hb5
  have HG5 : Hid (RowC x5 G 23 gS.cs) := HG4.out.below hb5
  clear hf4 hb5 d3 f3 hx4
  go_wp2_with fail
  obtain ⟨T, hcm, hsit⟩ := HS3.out.commit (b := kB1) (by decide) (by decide) kB1_bytes
  have HST := Lib.hid hsit
  have hcall := MAt.commit HKH.out HM5.out (HS3.out.rdy (by decide)) HS3.out.up.down (HS3.out.ok (by decide)) HK5.out (by decide) hcm
  refine hcall.mono ?_
  rintro e x6 ⟨rfl, hM6, -, hk6, hsz6⟩
  have HM6 := Lib.hid (hM6 rfl)
  have HG6 : Hid (RowC x6 G 23 gS.cs) := rowC_over HG5.out HOG.out hk6
  clear hcall hM6 hk6 hsz6 hcm hsit
  go_wp2_with fail
  obtain ⟨f6, hf6⟩ := HM6.out.mem
  refine (HKH.out.room hf6 HST.out.good HST.out.used).mono ?_
  rintro e x7 ⟨rfl, hb7⟩
  rw [kM2_room]
  obtain ⟨M2, hM2⟩ : ∃ M, kM1.next kB1 = M := ⟨_, rfl⟩
  have e1 : M2.b = kB1 := by rw [← hM2]; exact HS3.out.next_b (b := kB1) (by decide)
  have e2 : M2.g = gS := by rw [← hM2]; exact MS.next_g _ _
  have e3 : M2.room = 10 := by rw [← hM2]; exact kM2_room
  rw [hM2] at HM6 HST
  have HE1 := Lib.hid e1
  have HE2 := Lib.hid e2
  have HE3 := Lib.hid e3
  have HM7 : Hid (MAt R w x7 rb p0 p1 m T M2 own) := AtR.beside (R.both _ _ _ _ _ _) HM6.out hb7
  have HG7 : Hid (RowC x7 G 23 gS.cs) := HG6.out.below hb7
  clear hf6 hb7 e1 e2 e3 hM2
  go_wp2_with fail
  have hcr := MAt.onRig (T := T.crash [] []) (e0 := .returned (.tuple #[])) HM7.out (fun own h => RAt.crash h (Sl.nil _ _) (Sl.nil _ _) (fun j => by simp) (fun j => by simp) (fun h => absurd rfl h) (fun h => absurd rfl h) (HST.out.few.mono (by decide))) trivial
  refine hcr.mono ?_
  rintro e x8 ⟨rfl, hM8, hk8⟩
  have HG8 : Hid (RowC x8 G 23 gS.cs) := rowC_over HG7.out HOG.out hk8
  obtain ⟨fQ, q1, q2, hP8⟩ := hM8.split (R.isRes _ _ _)
  have HS8 := Lib.hid (HST.out.crash [] [])
  obtain ⟨S8, hS8⟩ : ∃ S, T.crash [] [] = S := ⟨_, rfl⟩
  rw [hS8] at hP8 HS8
  have HP8 := Lib.hid hP8
  have HQ8 := Lib.hid q1
  clear hcr hM8 hk8 q1 q2 hP8 hS8
  go_wp2_with fail
  have hop := RAt.openM HKH.out HP8.out (HS8.out.rdy (by decide)) HS8.out.up (HS8.out.opn (by decide))
  refine hop.mono ?_
  rintro e x9 ⟨n, rfl, hM9, hk9, hsz9⟩
  have HM9 := Lib.hid hM9
  have HQ9 : Hid (R.Mem m rb M2 x9 fQ) := (R.isRes _ _ _).out HQ8.out fun k hk => hk9 k (.inr hk)
  have HG9 : Hid (RowC x9 G 23 gS.cs) := rowC_over HG8.out HOG.out fun k hk => hk9 k (.inl hk)
  clear hop hM9 hk9 hsz9
  go_wp2_with fail
  obtain ⟨f9, hf9⟩ := HM9.out.mem
  have HF9 := Lib.hid hf9
  have HN : Hid (∀ z : World, Below x9.heap.size x9 z → R.Mem n rb M2 z f9) := fun z hz => (R.isRes _ _ _).below HF9.out hz
  have HQ : Hid (∀ z : World, Below x9.heap.size x9 z → R.Mem m rb M2 z fQ) := fun z hz => (R.isRes _ _ _).below HQ9.out hz
  have HBY9 : Hid (Below w.heap.size w x9) := HM9.out.bel
  have HBS : Hid (∀ z : World, Below x9.heap.size x9 z → Calls Tryz.prog 29 #[.pointer (some ⟨n, 0, none⟩)] z fun e w' => ∃ a cap b off, e = .returned (.slice a 126 cap) ∧ a = some ⟨b, off, none⟩ ∧ 126 ≤ cap ∧ cap ≤ 9223372036854775807 ∧ w'.cell? ⟨b, off + 50, none⟩ = some (.int .u8 7) ∧ Below z.heap.size z w') := fun z hz => by
    refine (HKH.out.bytes (HN.out z hz) (by rw [HE1.out]; decide) (by rw [HE1.out]; exact kB1_bytes)).mono ?_
    rintro e w' ⟨v, rfl, ⟨a, cap, rfl, l1, l2, l3, -⟩, -, hb⟩
    rw [HE1.out] at l1 l3 ⊢
    have hl : kB1.length = 126 := by decide
    rcases l3 with l3 | ⟨b, off, rfl, _, l4⟩
    · rw [l3] at hl; cases hl
    · refine ⟨_, cap, b, off, by rw [hl], rfl, by rw [hl] at l1; exact l1, by unfold maxLen at l2; omega, ?_, hb⟩
      rw [l4 50 (by rw [hl]; decide)]
      rfl
  have LG : ∀ z : Ext x9, (loadVar 23 ⟨G, 0, none⟩).run Tryz.prog z.1 = .ok (.agg gS.v) z.1 := fun z => load_geo (HG9.out.below z.2)
  have EQG : Hid (∀ z : Ext x9, (Op.equalIn 10000 23 (.agg gS.v) (.agg gS.v)).run Tryz.prog z.1 = .ok true z.1) := fun z => eq_geo gS z.1
  obtain ⟨X, hX⟩ : ∃ X, x9.drew = X := ⟨_, rfl⟩
  have HXX : Hid (Below x9.heap.size x9 X) := by show Below _ _ _; rw [← hX]; exact (Below.refl _ x9).drew
  clear hf9
  refine region_plan (fun u => ∃ y : Ext x9, u = y.1) 33 (.takes [0, 1, 2, 3, 4, 5, 6, 7] (.one 8 (.takes [9, 10, 11, 12, 13] (.one 14 (.takes [15] (.one 16 (.takes [17, 18, 19, 20, 22] (.one 21 (.takes [23, 24, 25, 26] (.one 27 (.takes [28, 29, 30, 31] (.one 32 .leaf)))))))))))) hmx (by kernel_rfl) (by intro c x v a w h; cases x <;> exact h) ⟨⟨x9.drew, (Below.refl _ x9).drew⟩, rfl⟩ ?_
  rw [hX]
  clear hX
  repeat (rw [wpPlan_takes_cons]; simp only [nth_zero, nth_succ]; go_big_quiet_step (fail); refine wpQuiet_nil ?_)
  rw [wpPlan_takes_nil, wpPlan_one]
  simp only [nth_zero, nth_succ]
  go_wp2_with fail
  refine (HBS.out X HXX.out).mono ?_
  rintro e y1 ⟨a1, cap1, b1, off1, rfl, -, h1, h1', -, hb1⟩
  have HY1 : Hid (Below x9.heap.size x9 y1) := HXX.out.trans (hb1.mono HXX.out.size)
  clear hb1
  go_wp2_with fail
  refine planPost_mk ⟨⟨y1, HY1.out⟩, rfl⟩ ?_
  repeat (rw [wpPlan_takes_cons]; simp only [nth_zero, nth_succ]; go_big_quiet_step (fail); refine wpQuiet_nil ?_)
  rw [wpPlan_takes_nil, wpPlan_one]
  simp only [nth_zero, nth_succ]
  go_wp2_with fail
  refine (HBS.out y1 HY1.out).mono ?_
  rintro e y2 ⟨a2, cap2, b2, off2, rfl, rfl, h2, h2', hc2, hb2⟩
  have HY2 : Hid (Below x9.heap.size x9 y2) := HY1.out.trans (hb2.mono HY1.out.size)
  clear hb2 h1 h1'
  go_wp2_with fail
  refine planPost_mk ⟨⟨y2, HY2.out⟩, rfl⟩ ?_
  repeat (rw [wpPlan_takes_cons]; simp only [nth_zero, nth_succ]; go_big_quiet_step (fail); refine wpQuiet_nil ?_)
  rw [wpPlan_takes_nil, wpPlan_one]
  simp only [nth_zero, nth_succ]
  go_wp2_with fail
  refine planPost_mk ⟨⟨y2, HY2.out⟩, rfl⟩ ?_
  clear hc2
  repeat (rw [wpPlan_takes_cons]; simp only [nth_zero, nth_succ]; go_big_quiet_step (fail); refine wpQuiet_nil ?_)
  rw [wpPlan_takes_nil, wpPlan_one]
  simp only [nth_zero, nth_succ]
  go_wp2_with fail
  refine (HKH.out.geom (HN.out y2 HY2.out)).mono ?_
  rintro e y3 ⟨rfl, hb3⟩
  rw [HE2.out]
  have HY3 : Hid (Below x9.heap.size x9 y3) := HY2.out.trans (hb3.mono HY2.out.size)
  clear hb3
  go_wp2_with fail
  refine planPost_mk ⟨⟨y3, HY3.out⟩, rfl⟩ ?_
  have EQ := EQG.out
  repeat (rw [wpPlan_takes_cons]; simp only [nth_zero, nth_succ]; go_big_quiet_step (fail); refine wpQuiet_nil ?_)
  clear EQ
  rw [wpPlan_takes_nil, wpPlan_one]
  simp only [nth_zero, nth_succ]
  go_wp2_with fail
  refine (HKH.out.room (HN.out y3 HY3.out) (by rw [HE2.out]; exact gS_good) HS8.out.used).mono ?_
  rintro e y4 ⟨rfl, hb4⟩
  rw [HE3.out]
  have HY4 : Hid (Below x9.heap.size x9 y4) := HY3.out.trans (hb4.mono HY3.out.size)
  clear hb4
  go_wp2_with fail
  refine planPost_mk ⟨⟨y4, HY4.out⟩, rfl⟩ ?_
  repeat (rw [wpPlan_takes_cons]; simp only [nth_zero, nth_succ]; go_big_quiet_step (fail); refine wpQuiet_nil ?_)
  rw [wpPlan_takes_nil, wpPlan_one]
  simp only [nth_zero, nth_succ]
  go_wp2_with fail
  refine (HKH.out.commit_no (HQ.out y4 HY4.out) (Sl.nil .u8 y4) (by rw [HE1.out]; decide)).mono ?_
  rintro e y5 ⟨rfl, hb5⟩
  have HY5 : Hid (Below x9.heap.size x9 y5) := HY4.out.trans (hb5.mono HY4.out.size)
  clear hb5
  go_wp2_with fail
  refine planPost_mk ⟨⟨y5, HY5.out⟩, rfl⟩ ?_
  rw [wpPlan_leaf]
  simp only [List.drop_succ_cons, List.drop_zero]
  go_wp2_with fail
  go_ret
  exact ⟨rfl, HBY9.out.trans (HY5.out.mono HBY9.out.size)⟩
end
end Go.Proofs.YtbdfllamhcodjaaGreat

/- Commits that come in, each at most cut. -/
namespace Go.Proofs.YtbdfllamhcodjaaGreat
open Go.ChangeShapes Go.WideShapes Go.ChangeAt Go.RowKit
set_option linter.unusedVariables false

structure Tn where
  tv : Value
  ps : List (Int × Int)
  at_ : Int
  p0 : Option Addr
  cap0 : Nat
  b0 : List Int
def Tn.pick (s : Tn) : Value := .slice s.p0 s.b0.length s.cap0
structure TnAt (W : World) (b o : Nat) (s : Tn) : Prop where
  c0 : W.cell? ⟨b, o, none⟩ = some s.tv
  c1 : W.cell? ⟨b, o + 1, none⟩ = some (.int .i64 s.at_)
  c2 : W.cell? ⟨b, o + 2, none⟩ = some s.pick
structure Tn.Ok (W : World) (s : Tn) : Prop where
  turn : Prs W s.tv s.ps
  pick : Sl .u8 W s.pick s.b0
  bytes : IsBytes s.b0
  a0 : -9223372036854775808 ≤ s.at_
  a1 : s.at_ ≤ 9223372036854775807
def Tns (W : World) (v : Value) (l : List Tn) : Prop := ∃ a cap, v = .slice a l.length cap ∧ l.length ≤ cap ∧ cap ≤ maxLen ∧ (∀ s ∈ l, s.Ok W) ∧ (l = [] ∨ ∃ b off, a = some ⟨b, off, none⟩ ∧ b < W.heap.size ∧ ∀ j s, l[j]? = some s → TnAt W b (off + j * 3) s)
theorem TnAt.below {W W' : World} {b o : Nat} {s : Tn} (h : TnAt W b o s) (hb : b < W.heap.size) (hB : Below W.heap.size W W') : TnAt W' b o s :=
  ⟨(hB.cell (p := ⟨b, o, none⟩) hb).trans h.c0, (hB.cell (p := ⟨b, o + 1, none⟩) hb).trans h.c1, (hB.cell (p := ⟨b, o + 2, none⟩) hb).trans h.c2⟩
set_option maxRecDepth 100000 in
theorem under_torn : ∃ fs, Tryz.prog.underlying 83 = some (.struct fs) ∧ (fs[0]?).map (fun f => (f.offset, f.type)) = some (0, 47) ∧ (fs[1]?).map (fun f => (f.offset, f.type)) = some (1, 3) ∧ (fs[2]?).map (fun f => (f.offset, f.type)) = some (2, 37) :=
  ⟨_, Tryz.underlying83, rfl, rfl, rfl⟩
def Tn.cells (s : Tn) : List Value := [s.tv, .int .i64 s.at_, s.pick]
set_option maxRecDepth 100000 in
theorem tn_of_cells {W : World} {cs : List Value} (h : Cells W 83 cs) : ∃ s : Tn, s.Ok W ∧ cs = s.cells := by
  obtain ⟨fs, hu, f0, f1, f2⟩ := under_torn
  obtain ⟨hl, hf⟩ := h.struct hu
  rw [show Tryz.prog.cellsOf 83 = 3 from by kernel_rfl] at hl
  have field : ∀ (j o : Nat) t, (fs[j]?).map (fun f => (f.offset, f.type)) = some (o, t) → Cells W t ((cs.drop o).take (Tryz.prog.cellsOf t)) := by
    intro j o t hj
    obtain ⟨f, hf1, hf2⟩ := Option.map_eq_some_iff.1 hj
    cases hf2
    exact hf j f hf1
  obtain ⟨x0, x1, x2, rfl⟩ : ∃ x0 x1 x2, cs = [x0, x1, x2] := by
    match cs, hl with
    | [x0, x1, x2], _ => exact ⟨x0, x1, x2, rfl⟩
  have g0 := field 0 0 _ f0
  have g1 := field 1 1 _ f1
  have g2 := field 2 2 _ f2
  rw [show Tryz.prog.cellsOf 47 = 1 from by kernel_rfl] at g0
  rw [show Tryz.prog.cellsOf 3 = 1 from by kernel_rfl] at g1
  rw [show Tryz.prog.cellsOf 37 = 1 from by kernel_rfl] at g2
  obtain ⟨pv, pl, e0, hp⟩ := g0.prs
  obtain ⟨n1, e1, w1⟩ := g1.int Tryz.underlying3
  obtain ⟨a, len, cap, xs, e2, hx, hm, hs, hw⟩ := g2.bytes Tryz.underlying37 Tryz.underlying5 (by kernel_rfl)
  simp at e0 e1 e2
  subst e0 e1 e2 hx
  have b1 := bounds_i64 w1
  exact ⟨⟨_, pl, n1, a, cap, xs⟩, ⟨hp, hs, hw, b1.1, b1.2⟩, rfl⟩
set_option maxRecDepth 100000 in
theorem Arg.tns {W : World} {v : Value} (h : Arg W 81 v) : ∃ l, Tns W v l := by
  obtain ⟨a, len, cap, rfl, r⟩ := h.slice Tryz.underlying81
  rcases r with ⟨rfl, rfl, rfl⟩ | ⟨x, rfl, h1, h2, h3⟩
  · exact ⟨[], none, 0, rfl, Nat.le_refl _, Nat.zero_le _, (fun s hs => by cases hs), .inl rfl⟩
  · rw [show Tryz.prog.cellsOf 83 = 3 from by kernel_rfl] at h3
    have h4 : ∀ i, i < cap → ∃ s : Tn, s.Ok W ∧ ∀ j v, s.cells[j]? = some v → j < 3 → W.cell? ((x.add (i * 3)).add j) = some v := by
      intro i hi
      obtain ⟨es, g1, g2⟩ := h3 i hi
      obtain ⟨s, hs, rfl⟩ := tn_of_cells g2
      have hm := (cells_many g1).2
      exact ⟨s, hs, fun j v hj hj5 => by
        obtain ⟨u, hu1, hu2⟩ := hm j hj5
        rw [hj] at hu1
        cases hu1
        exact hu2⟩
    have h5 : ∀ i, ∃ s : Tn, i < cap → s.Ok W ∧ ∀ j v, s.cells[j]? = some v → j < 3 → W.cell? ((x.add (i * 3)).add j) = some v := fun i => by
      by_cases hi : i < cap
      · obtain ⟨s, hs⟩ := h4 i hi; exact ⟨s, fun _ => hs⟩
      · exact ⟨⟨.bool false, [], 0, none, 0, []⟩, fun h => absurd h hi⟩
    obtain ⟨f, hf⟩ := Classical.axiomOfChoice h5
    refine ⟨(List.range len).map f, some x, cap, by simp, by simp; omega, h2, fun s hs => ?_, ?_⟩
    · obtain ⟨i, hi, rfl⟩ := List.mem_map.1 hs
      exact (hf i (by have := List.mem_range.1 hi; omega)).1
    · by_cases h0 : len = 0
      · subst h0; exact .inl rfl
      · have hc0 := (hf 0 (by omega)).2 0 _ rfl (by omega)
        rw [Nat.zero_mul, show (x.add 0).add 0 = x by simp [Addr.add]] at hc0
        obtain ⟨b, off, rfl, hb⟩ := cell_plain hc0
        refine .inr ⟨b, off, rfl, hb, fun j s hj => ?_⟩
        have hjl : j < len := by have := (List.getElem?_eq_some_iff.1 hj).1; simpa using this
        have hs : s = f j := by rw [List.getElem?_map] at hj; simp [hjl] at hj; exact hj.symm
        subst hs
        have q := (hf j (by omega)).2
        simp only [add_plain] at q
        exact ⟨q 0 _ rfl (by omega), q 1 _ rfl (by omega), q 2 _ rfl (by omega)⟩
theorem Tns.open {w : World} {a : Option Addr} {L cap : Nat} {l : List Tn} (h : Tns w (.slice a L cap) l) (hL : l.length = L) {k : Nat} {s : Tn} (hs : l[k]? = some s) :
    ∃ b off, a = some ⟨b, off, none⟩ ∧ s.Ok w ∧ b < w.heap.size ∧ TnAt w b (off + k * 3) s := by
  obtain ⟨a', cap', e, _, _, h3, h4⟩ := h
  simp only [Value.slice.injEq] at e
  obtain ⟨rfl, _, rfl⟩ := e
  rcases h4 with e | ⟨b, off, rfl, h5, h6⟩
  · rw [e] at hs; simp at hs
  · exact ⟨b, off, rfl, h3 s (List.mem_of_getElem? hs), h5, h6 k s hs⟩
end Go.Proofs.YtbdfllamhcodjaaGreat

