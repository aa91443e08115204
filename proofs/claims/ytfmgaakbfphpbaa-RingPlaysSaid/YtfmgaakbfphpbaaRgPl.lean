/- Both rings side by side: what RingPlays compares. -/
import Derived.Test.YtfmgaakbfphpbaaG5
namespace Go.Proofs.Ytfmgaakbfphpbaa
open Go.RowKit
set_option linter.unusedVariables false
attribute [-simp] Try.isAgg59 Try.zeroValue59
attribute [-go_sem] loadVar storeVar run_equalIn_agg
attribute [local go_sem] zero_blk build_blk loadVar_openL storeVar_openL

section
set_option maxRecDepth 100000
set_option maxHeartbeats 2000000
set_option maxRecDepth 100000 in
theorem refAppend_nil (frm count at0 seq : Int) (v : Value) (w : World) :
    Calls Try.prog 14 #[.pointer none, .int .i64 frm, .int .i64 count, .int .i64 at0, .int .u32 seq, v] w fun e w' => e = .returned (.tuple #[.int .i64 0, .int .i64 1]) ∧ w' = w := by
  have HM := Lib.hid (refMay_nil frm count at0 w)
  go_enter Try.func14, Try.ntmps14
  go_wp2_with fail
  go_at_call 33
  refine HM.out.mono ?_
  rintro e y ⟨rfl, hy⟩
  obtain rfl := hy.symm
  go_wp2_with fail
  go_ret2
  exact ⟨rfl, rfl⟩
set_option maxRecDepth 100000 in
theorem refReplay_nil (frm count at0 seq : Int) (w : World) :
    Calls Try.prog 16 #[.pointer none, .int .i64 frm, .int .i64 count, .int .i64 at0, .int .u32 seq] w fun e w' => e = .returned (.agg (logC (.slice none 0 0) 0 0 1).toArray) ∧ Below w.heap.size w w' := by
  have HM := Lib.hid (fun x => refMay_nil frm count at0 x)
  go_enter Try.func16, Try.ntmps16
  go_wp2_with fail
  go_at_call 33
  refine (HM.out _).mono ?_
  rintro e y ⟨rfl, rfl⟩
  have ST := store_newL (w := w) (a := .slice none 0 0) (b := .int .i64 0) (c := .int .u32 0) (d := .int .i64 0) (a' := .slice none 0 0) (b' := .int .i64 0) (c' := .int .u32 0) (d' := .int .i64 1) ⟨rfl, rfl, rfl, rfl⟩
  go_wp2_with fail
  refine bodyPost_ret (results_cell rfl rfl (load_log (by exact RowC.new w 53 _))) rfl ⟨rfl, below_new w _⟩
end

/-- The rigs, if there are any. -/
def rv : Option PP → Value
  | none => .pointer none
  | some p => .pointer (some ⟨p.rb, 0, none⟩)
def qv : Option PP → Value
  | none => .pointer none
  | some p => .pointer (some ⟨p.rq, 0, none⟩)
def OAt (w0 W : World) (o : Option PP) (S T : RS) (own : Nat → Prop) : Prop :=
  match o with
  | none => Below w0.heap.size w0 W ∧ ∀ k, own k → k < W.heap.size
  | some p => BAt w0 W p S T own
/-- What is known of their state behind so many steps. -/
structure RS.Pq (S : RS) (N k : Nat) : Prop where
  up : S.Up
  bb : S.BB
  n0 : S.n0 = N
  few : S.Few k
  d0 : 0 ≤ S.done
  d1 : S.done ≤ 402 * k
theorem newS_pq (N : Nat) : (newS N 1).Pq N 0 := ⟨newS_up _ _, newS_bb _ _, rfl, few_newS _ _ _, Int.le_refl _, Int.le_refl _⟩
section
variable {w W W' : World} {o : Option PP} {S T S' : RS} {own : Nat → Prop} {N k : Nat}
theorem RS.Pq.more (h : S.Pq N k) {j : Nat} (hj : k ≤ j) : S.Pq N j := ⟨h.up, h.bb, h.n0, h.few.mono hj, h.d0, by have := h.d1; omega⟩
theorem OAt.bel (h : OAt w W o S T own) : Below w.heap.size w W := by
  cases o with
  | none => exact h.1
  | some p => exact AtR.bel (show BAt w W p S T own from h)
theorem OAt.lt (h : OAt w W o S T own) {B : Nat} (hB : own B) : B < W.heap.size := by
  cases o with
  | none => exact h.2 B hB
  | some p => exact AtR.lt (show BAt w W p S T own from h) hB
theorem OAt.below (h : OAt w W o S T own) (hb : Below W.heap.size W W') (own' : Nat → Prop) (ho : ∀ k, own' k → own k ∨ (W.heap.size ≤ k ∧ k < W'.heap.size)) : OAt w W' o S T own' := by
  cases o with
  | none =>
    refine ⟨h.1.trans (hb.mono h.1.size), fun k hk => ?_⟩
    rcases ho k hk with h1 | ⟨_, h1⟩
    · exact Nat.lt_of_lt_of_le (h.2 k h1) hb.size
    · exact h1
  | some p => exact BAt.below (show BAt w W p S T own from h) hb own' ho
theorem OAt.beside (h : OAt w W o S T own) (hb : Below W.heap.size W W') : OAt w W' o S T own := h.below hb own fun _ h => .inl h
theorem OAt.less (h : OAt w W o S T own) (own' : Nat → Prop) (ho : ∀ k, own' k → own k) : OAt w W o S T own' := h.below (Below.refl _ _) own' fun k hk => .inl (ho k hk)
set_option maxRecDepth 100000 in
/-- A call that only makes memory. -/
theorem OAt.aside {g : FuncId} {args : Array Value} {R : Ending → Prop} (h : OAt w W o S T own) (hc : Calls Try.prog g args W fun e w' => R e ∧ Below W.heap.size W w') :
    Calls Try.prog g args W fun e w' => R e ∧ OAt w w' o S T own ∧ ∀ k, own k → w'.heap[k]? = W.heap[k]? :=
  hc.mono fun e w' ⟨h1, h2⟩ => ⟨h1, h.beside h2, fun k hk => h2.block k (h.lt hk)⟩

/-- What Append comes to. -/
inductive Ap (S : RS) (frm count pl seq : Int) (t : List Img) : RS → Int → Int → Prop
  | no (h : mayR S.n0 frm count pl = false) : Ap S frm count pl seq t S 0 1
  | long (F C A : Nat) (e1 : frm = F) (e2 : count = C) (e3 : pl = A) (h2 : 2 ≤ C) (h3 : C ≤ 256) (h4 : F + C ≤ S.n0) (h5 : A < C) (h : t.length < 1 ∨ C < t.length + 1) : Ap S frm count pl seq t S 0 2
  | bad (F C A : Nat) (e1 : frm = F) (e2 : count = C) (e3 : pl = A) (h2 : 2 ≤ C) (h3 : C ≤ 256) (h4 : F + C ≤ S.n0) (h5 : A < C) (l1 : 1 ≤ t.length) (l2 : t.length + 1 ≤ C) (h : ¬ ∀ x ∈ t, x.fits) : Ap S frm count pl seq t S 0 1
  | yes (F C A : Nat) (e1 : frm = F) (e2 : count = C) (e3 : pl = A) (h2 : 2 ≤ C) (h3 : C ≤ 256) (h4 : F + C ≤ S.n0) (h5 : A < C) (ht : TxnOk C t) : Ap S frm count pl seq t (S.app F C A seq t).1 (((A + t.length + 1) % C : Nat) : Int) 0
theorem ap_ex (S : RS) (frm count pl seq : Int) {t : List Img} (hok : ∀ x ∈ t, x.Ok) : ∃ S' K E, Ap S frm count pl seq t S' K E := by
  cases hm : mayR S.n0 frm count pl with
  | false => exact ⟨_, _, _, .no hm⟩
  | true =>
    obtain ⟨F, C, A, e1, e2, e3, h2, h3, h4, h5⟩ := mayR_yes hm
    by_cases hl : t.length < 1 ∨ C < t.length + 1
    · exact ⟨_, _, _, .long F C A e1 e2 e3 h2 h3 h4 h5 hl⟩
    · by_cases hf : ∀ x ∈ t, x.fits
      · exact ⟨_, _, _, .yes F C A e1 e2 e3 h2 h3 h4 h5 ⟨by omega, by omega, hok, hf⟩⟩
      · exact ⟨_, _, _, .bad F C A e1 e2 e3 h2 h3 h4 h5 (by omega) (by omega) hf⟩
variable {frm count pl seq K E : Int} {t : List Img}
theorem Ap.err (h : Ap S frm count pl seq t S' K E) : (E = 0 ∨ E = 1 ∨ E = 2) ∧ (E = 0 → 0 ≤ K ∧ K < 256) := by
  cases h with
  | no => exact ⟨.inr (.inl rfl), fun h => by omega⟩
  | long => exact ⟨.inr (.inr rfl), fun h => by omega⟩
  | bad => exact ⟨.inr (.inl rfl), fun h => by omega⟩
  | yes F C A e1 e2 e3 h2 h3 h4 h5 ht => exact ⟨.inl rfl, fun _ => by have := Nat.mod_lt (A + t.length + 1) (show 0 < C by omega); omega⟩
theorem Ap.pq (h : Ap S frm count pl seq t S' K E) (hS : S.Pq N k) (hk : k ≤ 240) (hs : IsSeq seq) : S'.Pq N (k + 2) := by
  cases h with
  | no => exact hS.more (by omega)
  | long => exact hS.more (by omega)
  | bad => exact hS.more (by omega)
  | yes F C A e1 e2 e3 h2 h3 h4 h5 ht =>
    have hto := RS.app_to (seq := seq) (A := A) hS.up h4 h3 ht.most hS.few (by omega)
    have hw := RS.appTo_way (seq := seq) (A := A) hS.up h4 h3 ht.most hS.few (by omega) (t.length + 1)
    have hfl := (S.appTo F C A seq t (t.length + 1)).flush_way 0
    have w0 := hw.d0
    have w1 := hw.d1
    have d0 := hS.d0
    have d1 := hS.d1
    refine ⟨(RS.app_up (S := S) (frm := F) (count := C) (at0 := A) (seq := seq) (t := t) hS.up (by omega) h4).2, hS.bb.app hs ht.ok, ?_, ?_, ?_, ?_⟩
    · exact ((RS.app_cases (S := S) (frm := F) (at0 := A) (seq := seq) (t := t) (show 0 < C by omega) h4).1.n0).trans hS.n0
    · rw [hto]; exact RS.few_flush hw.few 0
    · rw [hto]; simp only; omega
    · rw [hto]; simp only; push_cast; omega
theorem may0 (frm count pl : Int) : mayR 0 frm count pl = false := decide_eq_false (by omega)
set_option maxRecDepth 100000 in
/-- Append, the developers'. -/
theorem ap_dev {a : Value} {M : Nat} (h : OAt w W o S T own) (hS : S.Pq N k) (hN : N ≤ 60) (ho : o = none → N = 0) (hk : k ≤ 240) (hs : IsSeq seq) (hap : Ap S frm count pl seq t S' K E) (hok : ∀ y ∈ t, y.Ok) (hlen : t.length ≤ 1000) (hv : W.ownsRow M 81 49 a t.length (imgR t).flatten) (hown : ∀ j, a.ownBlock = some j → own j) :
    Calls Try.prog 13 #[rv o, .int .i64 frm, .int .i64 count, .int .i64 pl, .int .u32 seq, a] W fun e w' => e = .returned (.tuple #[.int .i64 K, .int .i64 E]) ∧ OAt w w' o S' T own ∧ ∀ k, own k → w'.heap[k]? = W.heap[k]? := by
  obtain ⟨ra, c, rfl, hra⟩ := row_lenT hv
  have d1 := hS.d1
  cases o with
  | none =>
    have hn : S.n0 = 0 := by rw [hS.n0, ho rfl]
    cases hap with
    | no => exact OAt.aside (o := none) h (ringOk.append_nil frm count pl seq W (by omega))
    | long F C A e1 e2 e3 h2 h3 h4 h5 => omega
    | bad F C A e1 e2 e3 h2 h3 h4 h5 => omega
    | yes F C A e1 e2 e3 h2 h3 h4 h5 => omega
  | some p =>
    have hB : BAt w W p S T own := h
    have hn := hS.n0
    cases hap with
    | no hm =>
      obtain ⟨f, hf⟩ := hB.rig
      exact OAt.aside (o := some p) h (ringOk.append_no hf (by omega) hm (by omega))
    | long F C A e1 e2 e3 h2 h3 h4 h5 hl =>
      subst e1 e2 e3
      obtain ⟨f, hf⟩ := hB.rig
      exact OAt.aside (o := some p) h (ringOk.append_long hf (by omega) h2 h3 h4 h5 hl (by omega))
    | bad F C A e1 e2 e3 h2 h3 h4 h5 l1 l2 hb =>
      subst e1 e2 e3
      obtain ⟨g, rfl, hgl, hgr⟩ := hra (by omega)
      obtain ⟨f, hf⟩ := hB.rig
      exact OAt.aside (o := some p) h (ringOk.append_bad hf (by omega) h2 h3 h4 h5 hs l1 l2 hok hb hgr hgl)
    | yes F C A e1 e2 e3 h2 h3 h4 h5 ht =>
      subst e1 e2 e3
      obtain ⟨g, rfl, hgl, hgr⟩ := hra (by have := ht.least; omega)
      have hgo := hown g rfl
      have := BAt.first (S' := (S.app F C A seq t).1) (R := fun e _ => e = .returned (.tuple #[.int .i64 (((A + t.length + 1) % C : Nat) : Int), .int .i64 0])) hB (fun f hf hk => by
        have := ringOk.append (c := c) hf (by rw [hS.up.fuse]; decide) hS.d0 (by omega) (hS.few.mono (by omega)) h2 h3 h4 h5 (by omega) hs ht hgr hgl (fun hh => (hk g hh).2 hgo)
        rw [(RS.app_up (S := S) (frm := F) (count := C) (at0 := A) (seq := seq) (t := t) hS.up (by omega) h4).1, if_pos rfl] at this
        exact this)
      exact this
set_option maxRecDepth 100000 in
/-- Append, the document's. -/
theorem ap_ref {a : Value} {M : Nat} (h : OAt w W o T S own) (hS : S.Pq N k) (hN : N ≤ 60) (ho : o = none → N = 0) (hk : k ≤ 240) (hs : IsSeq seq) (hap : Ap S frm count pl seq t S' K E) (hok : ∀ y ∈ t, y.Ok) (hlen : t.length ≤ 1000) (hv : W.ownsRow M 95 49 a t.length (imgR t).flatten) (hown : ∀ j, a.ownBlock = some j → own j) :
    Calls Try.prog 14 #[qv o, .int .i64 frm, .int .i64 count, .int .i64 pl, .int .u32 seq, a] W fun e w' => e = .returned (.tuple #[.int .i64 K, .int .i64 E]) ∧ OAt w w' o T S' own ∧ ∀ k, own k → w'.heap[k]? = W.heap[k]? := by
  obtain ⟨ra, c, rfl, hra⟩ := row_lenT hv
  have d1 := hS.d1
  have bl : ∀ {R : Ending → Prop} {v1 : Value}, (Calls Try.prog 14 #[v1, .int .i64 frm, .int .i64 count, .int .i64 pl, .int .u32 seq, .slice ra t.length c] W fun e w' => R e ∧ w' = W) → Calls Try.prog 14 #[v1, .int .i64 frm, .int .i64 count, .int .i64 pl, .int .u32 seq, .slice ra t.length c] W fun e w' => R e ∧ Below W.heap.size W w' := fun hc => hc.mono fun e w' ⟨h1, h2⟩ => ⟨h1, by rw [h2]; exact Below.refl _ _⟩
  cases o with
  | none =>
    have hn : S.n0 = 0 := by rw [hS.n0, ho rfl]
    cases hap with
    | no => exact OAt.aside (o := none) h (bl (refAppend_nil frm count pl seq _ W))
    | long F C A e1 e2 e3 h2 h3 h4 h5 => omega
    | bad F C A e1 e2 e3 h2 h3 h4 h5 => omega
    | yes F C A e1 e2 e3 h2 h3 h4 h5 => omega
  | some p =>
    have hB : BAt w W p T S own := h
    have hn := hS.n0
    cases hap with
    | no hm =>
      obtain ⟨f, hf⟩ := hB.ref
      exact OAt.aside (o := some p) h (bl (refAppend_no hf (by omega) hm _))
    | long F C A e1 e2 e3 h2 h3 h4 h5 hl =>
      subst e1 e2 e3
      obtain ⟨f, hf⟩ := hB.ref
      exact OAt.aside (o := some p) h (bl (refAppend_long hf (by omega) h2 h3 h4 h5 hl (by omega)))
    | bad F C A e1 e2 e3 h2 h3 h4 h5 l1 l2 hb =>
      subst e1 e2 e3
      obtain ⟨g, rfl, hgl, hgr⟩ := hra (by omega)
      obtain ⟨f, hf⟩ := hB.ref
      exact OAt.aside (o := some p) h (bl (refAppend_bad hf (by omega) h2 h3 h4 h5 l1 l2 hok hb hgr))
    | yes F C A e1 e2 e3 h2 h3 h4 h5 ht =>
      subst e1 e2 e3
      obtain ⟨g, rfl, hgl, hgr⟩ := hra (by have := ht.least; omega)
      have hgo := hown g rfl
      have := BAt.second (T' := (S.app F C A seq t).1) (R := fun e _ => e = .returned (.tuple #[.int .i64 (((A + t.length + 1) % C : Nat) : Int), .int .i64 0])) hB (fun f hf hkk =>
        refAppend (c := c) hf hS.up hS.few (by omega) ⟨hS.d0, by omega⟩ h2 h3 h4 h5 (by omega) hs ht hgr hgl (fun hh => (hkk g hh).2 hgo))
      exact this

/-- What Replay comes to. -/
inductive Rp (S : RS) (frm count pl seq : Int) : List (List Img) → Nat → Int → Int → Prop
  | no (h : mayR S.n0 frm count pl = false) : Rp S frm count pl seq [] 0 0 1
  | yes (F C A : Nat) (e1 : frm = F) (e2 : count = C) (e3 : pl = A) (h2 : 2 ≤ C) (h3 : C ≤ 256) (h4 : F + C ≤ S.n0) (h5 : A < C) : Rp S frm count pl seq (repS S.rd F C A seq).1 (repS S.rd F C A seq).2.1 (repS S.rd F C A seq).2.2 0
theorem rp_ex (S : RS) (frm count pl seq : Int) : ∃ ts a q E, Rp S frm count pl seq ts a q E := by
  cases hm : mayR S.n0 frm count pl with
  | false => exact ⟨_, _, _, _, .no hm⟩
  | true =>
    obtain ⟨F, C, A, e1, e2, e3, h2, h3, h4, h5⟩ := mayR_yes hm
    exact ⟨_, _, _, _, .yes F C A e1 e2 e3 h2 h3 h4 h5⟩
variable {ts : List (List Img)} {a : Nat} {q : Int}
theorem oneGo_ok {g : Nat → List Int} (hg : ∀ k, IsBytes (g k) ∧ (g k).length = 64) {sq : Int} {t : List Img} : ∀ (f k : Nat) (acc : List Img), (∀ x ∈ acc, x.Ok) → oneGo g sq f k acc = some t → ∀ x ∈ t, x.Ok
  | 0, k, acc, ha, h => by simp [oneGo] at h
  | f + 1, k, acc, ha, h => by
    unfold oneGo at h
    split at h
    · simp at h
    · split at h
      · split at h
        · simp at h
        · cases h; exact ha
      · split at h
        · simp at h
        · refine oneGo_ok hg f (k + 1) _ (fun x hx => ?_) h
          rcases List.mem_append.1 hx with hx | hx
          · exact ha x hx
          · rw [List.mem_singleton.1 hx]
            have := of_ok (hg k).1 (hg k).2
            exact ⟨this.len, this.bytes⟩
theorem repGo_ok {rd : Nat → List Int} {F C : Nat} (h0 : 0 < C) (hg : ∀ k, k < F + C → IsBytes (rd k) ∧ (rd k).length = 64) : ∀ (f A : Nat) (sq : Int) (acc : List (List Img)), (∀ t ∈ acc, t.length < C ∧ ∀ x ∈ t, x.Ok) → (repGo rd F C f A sq acc).1.length ≤ acc.length + f ∧ ∀ t ∈ (repGo rd F C f A sq acc).1, t.length < C ∧ ∀ x ∈ t, x.Ok
  | 0, A, sq, acc, ha => ⟨Nat.le_refl _, ha⟩
  | f + 1, A, sq, acc, ha => by
    unfold repGo
    cases ho : oneS rd F C A sq with
    | none => exact ⟨by simp only; omega, ha⟩
    | some t =>
      have h1 := oneS_len ho
      have h2 : ∀ x ∈ t, x.Ok := oneGo_ok (g := turnG rd F C A) (fun k => hg _ (by have := Nat.mod_lt (A + k) h0; omega)) C 0 [] (fun x hx => by cases hx) ho
      obtain ⟨g1, g2⟩ := repGo_ok h0 hg f ((A + t.length + 1) % C) ((sq + 1) % 4294967296) (acc ++ [t]) (fun u hu => by
        rcases List.mem_append.1 hu with hu | hu
        · exact ha u hu
        · rw [List.mem_singleton.1 hu]; exact ⟨h1, h2⟩)
      refine ⟨?_, g2⟩
      rw [List.length_append, List.length_singleton] at g1
      simp only
      omega
theorem Rp.ok (h : Rp S frm count pl seq ts a q E) (hS : S.Pq N k) : (∀ t ∈ ts, ∀ x ∈ t, x.Ok) ∧ ts.length ≤ 1000 ∧ (∀ t ∈ ts, t.length ≤ 1000) := by
  cases h with
  | no => exact ⟨fun t ht => by (cases ht), Nat.zero_le _, fun t ht => by (cases ht)⟩
  | yes F C A e1 e2 e3 h2 h3 h4 h5 =>
    obtain ⟨g1, g2⟩ := repGo_ok (rd := S.rd) (F := F) (C := C) (by omega) (fun k hk => ⟨(hS.bb.byt k (by omega)).1, (hS.bb.byt k (by omega)).2.1⟩) C A seq [] (fun t ht => by cases ht)
    have e : repS S.rd F C A seq = repGo S.rd F C C A seq [] := rfl
    rw [e]
    exact ⟨fun t ht => (g2 t ht).2, by simp at g1; omega, fun t ht => by have := (g2 t ht).1; omega⟩
set_option maxRecDepth 100000 in
theorem rp_dev (h : OAt w W o S T own) (hS : S.Pq N k) (hN : N ≤ 60) (ho : o = none → N = 0) (hs : IsSeq seq) (hrp : Rp S frm count pl seq ts a q E) :
    Calls Try.prog 15 #[rv o, .int .i64 frm, .int .i64 count, .int .i64 pl, .int .u32 seq] W fun e w' => (∃ v, e = .returned (.tuple #[.agg (logD v a q).toArray, .int .i64 E]) ∧ TxnsR 38 81 w' W.heap.size v ts) ∧ Below W.heap.size W w' := by
  have hn := hS.n0
  cases o with
  | none =>
    have hn : S.n0 = 0 := by rw [hS.n0, ho rfl]
    cases hrp with
    | no => exact (ringOk.replay_nil frm count pl seq W).mono fun e w' ⟨h1, h2⟩ => ⟨⟨_, h1, TxnsR.nil _ _ _ _⟩, h2⟩
    | yes F C A e1 e2 e3 h2 h3 h4 h5 => omega
  | some p =>
    obtain ⟨f, hf⟩ := BAt.rig (show BAt w W p S T own from h)
    cases hrp with
    | no hm => exact (ringOk.replay_no hf (by omega) hm).mono fun e w' ⟨h1, h2⟩ => ⟨⟨_, h1, TxnsR.nil _ _ _ _⟩, h2⟩
    | yes F C A e1 e2 e3 h2 h3 h4 h5 =>
      subst e1 e2 e3
      exact ringOk.replay hf hS.bb.byt hS.up.down h2 h3 h4 h5 (by omega) hs
set_option maxRecDepth 100000 in
theorem rp_ref (h : OAt w W o T S own) (hS : S.Pq N k) (hN : N ≤ 60) (ho : o = none → N = 0) (hs : IsSeq seq) (hrp : Rp S frm count pl seq ts a q E) :
    Calls Try.prog 16 #[qv o, .int .i64 frm, .int .i64 count, .int .i64 pl, .int .u32 seq] W fun e w' => (∃ v, e = .returned (.agg (logC v a q E).toArray) ∧ TxnsR 39 95 w' W.heap.size v ts) ∧ Below W.heap.size W w' := by
  have hn := hS.n0
  cases o with
  | none =>
    have hn : S.n0 = 0 := by rw [hS.n0, ho rfl]
    cases hrp with
    | no => exact (refReplay_nil frm count pl seq W).mono fun e w' ⟨h1, h2⟩ => ⟨⟨_, h1, TxnsR.nil _ _ _ _⟩, h2⟩
    | yes F C A e1 e2 e3 h2 h3 h4 h5 => omega
  | some p =>
    obtain ⟨f, hf⟩ := BAt.ref (show BAt w W p T S own from h)
    cases hrp with
    | no hm => exact (refReplay_no hf (by omega) hm).mono fun e w' ⟨h1, h2⟩ => ⟨⟨_, h1, TxnsR.nil _ _ _ _⟩, h2⟩
    | yes F C A e1 e2 e3 h2 h3 h4 h5 =>
      subst e1 e2 e3
      exact refReplay hf hS.bb.byt hS.up.down h2 h3 h4 h5 (by omega) hs
end
end Go.Proofs.Ytfmgaakbfphpbaa
