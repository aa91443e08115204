/- The ground of the proofs, part 3. -/
import Derived.Test.YtbdfllamhcodjaaGreatH2
import Derived.Deep.Upon
import Derived.Test.YtbdfllamhcodjaaGreatRows
import Derived.Test.YtbdfllamhcodjaaGreatProg
import Derived.WalkKit
import Derived.ProofKit
import Derived.OpenShut
import Derived.ShutString
import Derived.ChangeOld
import Derived.Below
import Derived.Deep.Slices
import Derived.Lib.SmallJoins
import Derived.Lib.Hide
import Derived.RangeFuncOwn
import Derived.LoopTactic
import Derived.WalkMore
/- A Meta that stands on a rig's fast disk: what Open tells of it. -/
namespace Go.Proofs.YtbdfllamhcodjaaGreat
open Go.RowKit
set_option linter.unusedVariables false

/-- What stands behind the transactions is none, or elder, or no commit. -/
def Junk (S : RS) (C p0 L : Nat) (q : Int) : Prop := ∀ k, L ≤ k → k < C → decOk (S.rd (plc 2 C p0 k)) = false ∨ (Sct.of (S.rd (plc 2 C p0 k))).seq < q ∨ ((Sct.of (S.rd (plc 2 C p0 k))).seq = q ∧ (Sct.of (S.rd (plc 2 C p0 k))).mark ≠ 67)
theorem oneGo_nocom {g : Nat → List Int} {seq : Int} {N : Nat} (h : ∀ k, k < N → decOk (g k) = false ∨ (Sct.of (g k)).seq ≠ seq ∨ (Sct.of (g k)).mark ≠ 67) : ∀ f k acc, f + k ≤ N → oneGo g seq f k acc = none
  | 0, _, _, _ => rfl
  | f + 1, k, acc, hk => by
    unfold oneGo
    by_cases h0 : decOk (g k) = false ∨ (Sct.of (g k)).seq ≠ seq
    · rw [if_pos h0]
    · rw [if_neg h0]
      have hm : (Sct.of (g k)).mark ≠ 67 := by
        rcases h k (by omega) with h | h | h
        · exact absurd (.inl h) h0
        · exact absurd (.inr h) h0
        · exact h
      rw [if_neg hm]
      by_cases h1 : (Sct.of (g k)).mark ≠ 73
      · rw [if_pos h1]
      · rw [if_neg h1]
        exact oneGo_nocom h f (k + 1) _ (by omega)
theorem txn_seq {seq : Int} {t : List Img} {count : Nat} (hs : IsSeq seq) (hc : count ≤ 65535) (ht : TxnOk count t) {k : Nat} {b : List Int} (h : (txnB seq t)[k]? = some b) : (Sct.of b).seq = seq := by
  have hm := List.mem_of_getElem? h
  unfold txnB at hm
  rcases List.mem_append.1 hm with h | h
  · obtain ⟨x, hx, rfl⟩ := List.mem_map.1 h
    rw [(decOk_bytes (imgSct_ok hs (ht.ok x hx)) (imgSct_fits (seq := seq) (ht.fits x hx))).2]
    rfl
  · rw [List.mem_singleton] at h
    rw [h, (decOk_bytes (comSct_ok (n := t.length) hs) (comSct_fits (seq := seq) (by have := ht.most; omega))).2]
    rfl
theorem lay_seq {count : Nat} (hc : count ≤ 65535) : ∀ (ts : List (List Img)) (q0 : Int) (k : Nat) (b : List Int), 0 ≤ q0 → q0 + ts.length < 4294967296 → (∀ t ∈ ts, TxnOk count t) → (layB q0 ts)[k]? = some b → q0 ≤ (Sct.of b).seq ∧ (Sct.of b).seq < q0 + ts.length
  | [], q0, k, b, _, _, _, h => by simp [layB] at h
  | t :: ts, q0, k, b, h0, h1, hok, h => by
    rw [List.length_cons] at h1
    have hs : IsSeq q0 := ⟨h0, by omega⟩
    unfold layB at h
    by_cases hk : k < (txnB q0 t).length
    · rw [List.getElem?_append_left hk] at h
      rw [txn_seq hs hc (hok t List.mem_cons_self) h, List.length_cons]
      omega
    · rw [List.getElem?_append_right (by omega)] at h
      have e : (q0 + 1) % 4294967296 = q0 + 1 := by omega
      rw [e] at h
      have := lay_seq hc ts (q0 + 1) _ b (by omega) (by omega) (fun u hu => hok u (List.mem_cons_of_mem _ hu)) h
      rw [List.length_cons]
      omega
theorem seqAt_small {q0 : Int} {n : Nat} (h0 : 0 ≤ q0) (h1 : q0 + n < 4294967296) : seqAt q0 n = q0 + n := by
  unfold seqAt; omega
/-- A place behind the transactions, or, once round, one of theirs. -/
theorem ring_turn {S : RS} {C p0 : Nat} {q0 : Int} {ts : List (List Img)} (h : RingIs S 2 C p0 q0 ts) (hq : q0 + ts.length < 4294967296) (hj : Junk S C p0 (layB q0 ts).length (q0 + ts.length)) {k : Nat} (hk : k < C) :
    decOk (S.rd (plc 2 C p0 ((layB q0 ts).length + k))) = false ∨ (Sct.of (S.rd (plc 2 C p0 ((layB q0 ts).length + k)))).seq < q0 + ts.length ∨
      ((Sct.of (S.rd (plc 2 C p0 ((layB q0 ts).length + k)))).seq = q0 + ts.length ∧ (Sct.of (S.rd (plc 2 C p0 ((layB q0 ts).length + k)))).mark ≠ 67) := by
  by_cases hl : (layB q0 ts).length + k < C
  · exact hj _ (by omega) hl
  · have hf := h.fits
    obtain ⟨j, hj'⟩ : ∃ j, (layB q0 ts).length + k = C + j := ⟨(layB q0 ts).length + k - C, by omega⟩
    rw [hj', plc_wrap h.at0]
    have hl := h.lay j (by omega)
    exact .inr (.inl (lay_seq (count := C) (by have := h.most; omega) ts q0 j _ h.seq.1 hq h.ok hl).2)
theorem Junk.none {S : RS} {C p0 : Nat} {q0 : Int} {ts : List (List Img)} (h : RingIs S 2 C p0 q0 ts) (hq : q0 + ts.length < 4294967296) (hj : Junk S C p0 (layB q0 ts).length (q0 + ts.length)) :
    oneS S.rd 2 C ((p0 + (layB q0 ts).length) % C) (seqAt q0 ts.length) = none := by
  rw [seqAt_small h.seq.1 hq]
  unfold oneS
  refine oneGo_nocom (N := C) (fun k hk => ?_) C 0 [] (Nat.le_refl _)
  have e : turnG S.rd 2 C ((p0 + (layB q0 ts).length) % C) k = S.rd (plc 2 C p0 ((layB q0 ts).length + k)) := by
    rw [← plc_add]; rfl
  rw [e]
  rcases ring_turn h hq hj hk with h | h | h
  · exact .inl h
  · exact .inr (.inl (by omega))
  · exact .inr (.inr h.2)
theorem usedBy_lay : ∀ (ts : List (List Img)) (q : Int), usedBy ts = (layB q ts).length
  | [], _ => rfl
  | t :: ts, q => by
    show (t.length + 1) + usedBy ts = (txnB q t ++ layB _ ts).length
    rw [usedBy_lay ts ((q + 1) % 4294967296), List.length_append, txnB_length]
/-- **A Meta stands there.** -/
structure Inv (S : RS) (M : MS) (n : Nat) (p0 : Nat) (q0 : Int) (ts : List (List Img)) : Prop where
  good : M.g.good
  n0 : M.g.oF ≤ S.n0
  n1 : M.g.oW ≤ S.n1
  dry : S.Dry
  bb : S.BB
  sup1 : M.sup ≤ 1
  sb : S.rd M.sup = (supSct M.gen M.g p0 q0).bytes
  other : ∀ x, supOf S.n0 S.n1 (S.rd (1 - M.sup)) = some x → x.gen < M.gen
  gen : 1 ≤ M.gen ∧ M.gen ≤ n + 1
  homl : M.home.length = M.g.P
  homb : ∀ x ∈ M.home, x.length = 48 ∧ IsBytes x
  hom : ∀ i x, M.home[i]? = some x → S.rd (M.g.H + i) = (homSct i x).bytes
  ring : RingIs S 2 M.g.C p0 q0 ts
  q : 1 ≤ q0 ∧ q0 + ts.length ≤ n + 1
  junk : Junk S M.g.C p0 (layB q0 ts).length (q0 + ts.length)
  at0 : M.at0 = (p0 + (layB q0 ts).length) % M.g.C
  seq : M.seq = q0 + ts.length
  used : M.used = (layB q0 ts).length
  len : M.b.length = M.g.bts.toNat
  bytes : IsBytes M.b
  rows : layTs M.home ts = cutL M.b
/-- A geometry's numbers, as naturals. -/
structure Geo.Nats (g : Geo) : Prop where
  c : (g.C : Int) = g.r
  p : (g.P : Int) = g.pgs
  f : g.oF = 2 + g.C + g.P + g.slots
  c1 : g.P + 2 ≤ g.C
  c2 : g.C ≤ 256
  p1 : 2 ≤ g.P
  p2 : g.P ≤ 15
  b : (g.bts.toNat : Int) = g.bts
  bp : g.P = (g.bts.toNat + 47) / 48
  b2 : g.bts.toNat ≤ 714
  s1 : 1 ≤ g.slots
theorem Geo.nats {g : Geo} (hg : g.good) : g.Nats := by
  obtain ⟨b1, b2, b3, b4, b5, b6⟩ := Geo.bounds hg.1
  have h9 := hg.2.1
  have h10 := hg.2.2
  have hf : g.oF = 2 + g.r + g.pgs + g.slots := if_pos hg
  have hc : (g.C : Int) = g.r := by unfold Geo.C; omega
  have hp : (g.P : Int) = g.pgs := by unfold Geo.P; omega
  have hb : (g.bts.toNat : Int) = g.bts := by omega
  have hcn : g.pgs = ((g.bts.toNat + 47) / 48 : Nat) := by
    have := cnt_nat g.bts.toNat
    rw [hb] at this
    exact this
  exact ⟨hc, hp, by rw [hf, hc, hp], by omega, by omega, by omega, by omega, hb, by omega, by omega, b1⟩
theorem cutL_length (b : List Int) : (cutL b).length = nPcs b := by simp [cutL]
theorem cutL_get (b : List Int) {i : Nat} (h : i < nPcs b) : (cutL b)[i]? = some (piece b i) := by simp [cutL, h]
theorem piece_bytes {b : List Int} (h : IsBytes b) (i : Nat) : IsBytes (piece b i) := (h.cut (48 * i) 48).app (zeros_bytes _)
theorem flat_lenP (b : List Int) : ∀ n, (((List.range n).map (piece b)).flatten).length = 48 * n
  | 0 => rfl
  | n + 1 => by
    rw [List.range_succ, List.map_append, List.flatten_append, List.length_append, flat_lenP b n, List.map_cons, List.map_nil]
    simp [piece_length]
    omega
theorem flat_pieces (b : List Int) : ∀ n, 48 * n ≤ b.length + 47 → (((List.range n).map (piece b)).flatten).take b.length = b.take (48 * n)
  | 0, _ => by simp
  | n + 1, h => by
    have ih := flat_pieces b n (by omega)
    rw [List.range_succ, List.map_append, List.flatten_append]
    have hl : (((List.range n).map (piece b)).flatten).length = 48 * n := flat_lenP b n
    rw [List.take_append, ih, hl]
    have e : ([piece b n] : List (List Int)).flatten = piece b n := by simp
    rw [List.map_cons, List.map_nil, e]
    have e2 : (piece b n).take (b.length - 48 * n) = (b.drop (48 * n)).take 48 := by
      unfold piece
      rw [List.take_append]
      have : (b.drop (48 * n)).length = b.length - 48 * n := List.length_drop
      by_cases hc : b.length - 48 * n ≤ 48
      · have e3 : (b.drop (48 * n)).take 48 = b.drop (48 * n) := List.take_of_length_le (by omega)
        rw [e3, List.take_of_length_le (by omega), this, Nat.sub_self, List.take_zero, List.append_nil]
      · have e4 : ((b.drop (48 * n)).take 48).length = 48 := by rw [List.length_take]; omega
        rw [List.take_of_length_le (by omega), e4]
        simp
    rw [e2, show 48 * (n + 1) = 48 * n + 48 by omega, List.take_add]
theorem cutL_flat (b : List Int) : ((cutL b).flatten).take b.length = b := by
  unfold cutL
  rw [flat_pieces b (nPcs b) (by unfold nPcs; omega), List.take_of_length_le (by unfold nPcs; omega)]
theorem isSeq_of {n : Nat} {q : Int} (hn : n ≤ 100000) (h : 1 ≤ q ∧ q ≤ n + 1) : IsSeq q := ⟨by omega, by omega⟩
/-- **What Open tells.** -/
theorem Inv.opn {S : RS} {M : MS} {n p0 : Nat} {q0 : Int} {ts : List (List Img)} (h : Inv S M n p0 q0 ts) (hn : n ≤ 100000) : S.opn = some M := by
  have hN := Geo.nats h.good
  have hq0 := h.q
  have hp0 : (p0 : Int) < M.g.r := by have := h.ring.at0; have := hN.c; omega
  have hsup := supOf_sup (isSeq_of hn h.gen) h.good h.n0 h.n1 hp0 h.ring.seq
  have hn0 : 2 ≤ S.n0 := by have := h.n0; have := hN.f; have := hN.s1; omega
  have hat : S.supAt M.sup = some ⟨M.gen, M.g, p0, q0⟩ := by
    unfold RS.supAt
    rw [if_pos (by have := h.sup1; omega), h.sb]
    exact hsup
  have hot : ∀ x, S.supAt (1 - M.sup) = some x → x.gen < M.gen := fun x hx => by
    unfold RS.supAt at hx
    rw [if_pos (by omega)] at hx
    exact h.other x hx
  have hnew : newer (S.supAt 0) (S.supAt 1) = some (M.sup, ⟨M.gen, M.g, p0, q0⟩) := by
    rcases (show M.sup = 0 ∨ M.sup = 1 by have := h.sup1; omega) with e | e
    · rw [e] at hat hot ⊢
      rw [hat]
      cases h1 : S.supAt 1 with
      | none => rfl
      | some y =>
        have := hot y h1
        show (if M.gen < y.gen then _ else _) = _
        rw [if_neg (by omega)]
    · rw [e] at hat hot ⊢
      rw [hat]
      cases h1 : S.supAt 0 with
      | none => rfl
      | some y =>
        have := hot y h1
        show (if y.gen < M.gen then _ else _) = _
        rw [if_pos this]
  have hhp : ∀ i, i < M.g.P → ∃ x, M.home[i]? = some x ∧ homP (S.rd (M.g.H + i)) i ∧ (Sct.of (S.rd (M.g.H + i))).body = x := fun i hi => by
    have hl : i < M.home.length := by rw [h.homl]; exact hi
    refine ⟨M.home[i], List.getElem?_eq_getElem hl, ?_⟩
    have hb := h.homb _ (List.getElem_mem hl)
    rw [h.hom i _ (List.getElem?_eq_getElem hl)]
    exact homP_hom (by have := hN.p2; omega) hb.1 hb.2
  have hhom : S.homes M.g.H M.g.P = M.home := by
    refine List.ext_getElem? fun i => ?_
    unfold RS.homes
    by_cases hi : i < M.g.P
    · obtain ⟨x, hx, _, e⟩ := hhp i hi
      rw [hx, List.getElem?_map, List.getElem?_range hi]
      simp [e]
    · rw [List.getElem?_eq_none (by simp; omega), List.getElem?_eq_none (by rw [h.homl]; omega)]
  have hrep := h.ring.rep (Junk.none h.ring (by omega) h.junk)
  rw [seqAt_small h.ring.seq.1 (by omega)] at hrep
  unfold RS.opn
  rw [hnew]
  dsimp only
  rw [if_pos (fun i hi => by obtain ⟨x, _, hp, _⟩ := hhp i hi; exact hp), hhom, hrep]
  dsimp only
  rw [h.rows, usedBy_lay ts q0]
  have hb : ((cutL M.b).flatten).take M.g.bts.toNat = M.b := by rw [← h.len]; exact cutL_flat M.b
  rw [hb, ← h.at0, ← h.seq, ← h.used]
end Go.Proofs.YtbdfllamhcodjaaGreat

/- Pages laid over pages, place by place. -/
namespace Go.Proofs.YtbdfllamhcodjaaGreat
open Go.RowKit
set_option linter.unusedVariables false

/-- What an image leaves at a place. -/
def ovI (i : Nat) (o : List Int) (x : Img) : List Int := if x.index = (i : Int) then x.body else o
def ovT (i : Nat) (o : List Int) (t : List Img) : List Int := t.foldl (ovI i) o
/-- Images have indices that are no negative numbers. -/
def IdxP (ts : List (List Img)) : Prop := ∀ t ∈ ts, ∀ x ∈ t, 0 ≤ x.index
theorem layI_length (now : List (List Int)) (x : Img) : (layI now x).length = now.length := by
  unfold layI
  split
  · simp
  · rfl
theorem layT_length : ∀ (t : List Img) (now : List (List Int)), (layT now t).length = now.length
  | [], _ => rfl
  | x :: t, now => by
    show (layT (layI now x) t).length = _
    rw [layT_length t, layI_length]
theorem layTs_length : ∀ (ts : List (List Img)) (now : List (List Int)), (layTs now ts).length = now.length
  | [], _ => rfl
  | t :: ts, now => by
    show (layTs (layT now t) ts).length = _
    rw [layTs_length ts, layT_length]
theorem layI_get {now : List (List Int)} {x : Img} (hx : 0 ≤ x.index) {i : Nat} {o : List Int} (h : now[i]? = some o) : (layI now x)[i]? = some (ovI i o x) := by
  have hi := (List.getElem?_eq_some_iff.1 h).1
  unfold layI ovI
  by_cases hl : x.index < now.length
  · rw [if_pos hl, List.getElem?_set]
    by_cases he : x.index = (i : Int)
    · rw [if_pos (by omega), if_pos he, if_pos (by omega)]
    · rw [if_neg (by omega), if_neg he]
      exact h
  · rw [if_neg hl, if_neg (by omega)]
    exact h
theorem layT_get : ∀ (t : List Img) (now : List (List Int)) {i : Nat} {o : List Int}, (∀ x ∈ t, 0 ≤ x.index) → now[i]? = some o → (layT now t)[i]? = some (ovT i o t)
  | [], _, _, _, _, h => h
  | x :: t, now, i, o, hx, h => layT_get t (layI now x) (fun y hy => hx y (List.mem_cons_of_mem _ hy)) (layI_get (hx x List.mem_cons_self) h)
theorem layTs_get : ∀ (ts : List (List Img)) (now : List (List Int)) {i : Nat} {o : List Int}, IdxP ts → now[i]? = some o → (layTs now ts)[i]? = some (ts.foldl (ovT i) o)
  | [], _, _, _, _, h => h
  | t :: ts, now, i, o, hx, h => layTs_get ts (layT now t) (fun u hu => hx u (List.mem_cons_of_mem _ hu)) (layT_get t now (hx t List.mem_cons_self) h)
/-- What is laid is what was there, or does not depend on it. -/
theorem ovT_or (i : Nat) : ∀ (t : List Img) (o : List Int), ovT i o t = o ∨ ∀ o', ovT i o' t = ovT i o t
  | [], _ => .inl rfl
  | x :: t, o => by
    show ovT i (ovI i o x) t = o ∨ ∀ o', ovT i (ovI i o' x) t = ovT i (ovI i o x) t
    by_cases h : x.index = (i : Int)
    · right
      intro o'
      have e : ∀ o, ovI i o x = x.body := fun o => if_pos h
      rw [e, e]
    · have e : ∀ o, ovI i o x = o := fun o => if_neg h
      simp only [e]
      exact ovT_or i t o
theorem ovTs_or (i : Nat) : ∀ (ts : List (List Img)) (o : List Int), ts.foldl (ovT i) o = o ∨ ∀ o', ts.foldl (ovT i) o' = ts.foldl (ovT i) o
  | [], _ => .inl rfl
  | t :: ts, o => by
    show ts.foldl (ovT i) (ovT i o t) = o ∨ ∀ o', ts.foldl (ovT i) (ovT i o' t) = ts.foldl (ovT i) (ovT i o t)
    rcases ovT_or i t o with h | h
    · rw [h]
      rcases ovTs_or i ts o with h2 | h2
      · exact .inl h2
      · exact .inr fun o' => h2 _
    · exact .inr fun o' => by rw [h o']
/-- **Pages of which some are already what is laid.** -/
theorem layTs_mix {ts : List (List Img)} {home hm now : List (List Int)} (hi : IdxP ts) (h : layTs home ts = now) (hl : hm.length = home.length) (hor : ∀ i : Nat, hm[i]? = home[i]? ∨ hm[i]? = now[i]?) : layTs hm ts = now := by
  refine List.ext_getElem? fun i => ?_
  by_cases hlt : i < hm.length
  · have e1 := List.getElem?_eq_getElem hlt
    have hlt2 : i < home.length := by omega
    have e2 := List.getElem?_eq_getElem hlt2
    have g2 := layTs_get ts home hi e2
    rw [layTs_get ts hm hi e1, ← h, g2]
    rcases hor i with h1 | h1
    · rw [e1, e2] at h1
      rw [Option.some.inj h1]
    · rw [← h, g2, e1] at h1
      have h1 := Option.some.inj h1
      rcases ovTs_or i ts hm[i] with h2 | h2
      · rw [h2, h1]
      · rw [h2 home[i]]
  · rw [List.getElem?_eq_none (by rw [layTs_length]; omega), List.getElem?_eq_none (by rw [← h, layTs_length]; omega)]
theorem layTs_snoc (now : List (List Int)) (ts : List (List Img)) (t : List Img) : layTs now (ts ++ [t]) = layT (layTs now ts) t := by
  unfold layTs
  rw [List.foldl_append]
  rfl
/-- Images whose bodies are those of some pages. -/
theorem ovT_of (now : List (List Int)) (i : Nat) : ∀ (l : List Nat) (o : List Int), ovT i o (l.map fun (j : Nat) => (⟨(j : Int), now[j]?.getD []⟩ : Img)) = if i ∈ l then now[i]?.getD [] else o
  | [], o => by simp [ovT]
  | j :: l, o => by
    show ovT i (ovI i o ⟨(j : Int), now[j]?.getD []⟩) (l.map fun (j : Nat) => (⟨(j : Int), now[j]?.getD []⟩ : Img)) = _
    rw [ovT_of now i l]
    by_cases hj : j = i
    · subst hj
      have e : ovI j o ⟨(j : Int), now[j]?.getD []⟩ = now[j]?.getD [] := if_pos rfl
      rw [e, if_pos List.mem_cons_self]
      split <;> rfl
    · have e : ovI i o ⟨(j : Int), now[j]?.getD []⟩ = o := if_neg (by show ¬ ((j : Nat) : Int) = (i : Int); omega)
      rw [e]
      by_cases hm : i ∈ l
      · rw [if_pos hm, if_pos (List.mem_cons_of_mem _ hm)]
      · rw [if_neg hm, if_neg (fun h => by rcases List.mem_cons.1 h with h | h; exact hj h.symm; exact hm h)]
theorem difL_idx (was now : List (List Int)) : ∀ x ∈ difL was now, ∃ i : Nat, x = ⟨(i : Int), now[i]?.getD []⟩ ∧ i < now.length ∧ now[i]? ≠ was[i]? := by
  intro x hx
  unfold difL at hx
  obtain ⟨i, hi, rfl⟩ := List.mem_map.1 hx
  obtain ⟨h1, h2⟩ := List.mem_filter.1 hi
  exact ⟨i, rfl, List.mem_range.1 h1, of_decide_eq_true h2⟩
/-- **What differs, laid over what was.** -/
theorem layT_dif {was now : List (List Int)} (hl : was.length = now.length) : layT was (difL was now) = now := by
  refine List.ext_getElem? fun i => ?_
  by_cases hlt : i < was.length
  · have e1 := List.getElem?_eq_getElem hlt
    have hlt2 : i < now.length := by omega
    have e2 := List.getElem?_eq_getElem hlt2
    rw [layT_get _ was (fun x hx => by obtain ⟨i, rfl, _⟩ := difL_idx was now x hx; exact Int.natCast_nonneg i) e1]
    unfold difL
    rw [ovT_of, e2]
    by_cases hm : i ∈ (List.range now.length).filter fun i => decide (now[i]? ≠ was[i]?)
    · rw [if_pos hm]; rfl
    · rw [if_neg hm]
      have : ¬ now[i]? ≠ was[i]? := fun h => hm (List.mem_filter.2 ⟨List.mem_range.2 hlt2, decide_eq_true h⟩)
      rw [e1, e2] at this
      exact (Classical.not_not.1 this).symm
  · rw [List.getElem?_eq_none (by rw [layT_length]; omega), List.getElem?_eq_none (by omega)]
theorem difL_length (was now : List (List Int)) : (difL was now).length ≤ now.length := by
  unfold difL
  rw [List.length_map]
  exact Nat.le_trans (List.length_filter_le _ _) (by simp)
end Go.Proofs.YtbdfllamhcodjaaGreat

/- What writes make of a Meta that stands on the fast disk. -/
namespace Go.Proofs.YtbdfllamhcodjaaGreat
open Go.RowKit
set_option linter.unusedVariables false

theorem PartW.far {S T : RS} {W : Wrs} (h : PartW S T W) {i : Nat} (hi : i < S.n0) (hn : ∀ b, (i, b) ∉ W) : T.rd i = S.rd i := by
  rcases h.or_ i hi with h | ⟨b, hb, _⟩
  · exact h
  · exact absurd hb (hn b)
theorem plc_in {C : Nat} (hC : 0 < C) (a k : Nat) : 2 ≤ plc 2 C a k ∧ plc 2 C a k < 2 + C := by
  have := Nat.mod_lt (a + k) hC
  unfold plc
  omega
theorem Inv.idx {S : RS} {M : MS} {n p0 : Nat} {q0 : Int} {ts : List (List Img)} (h : Inv S M n p0 q0 ts) : IdxP ts := fun t ht x hx => ((h.ring.ok t ht).fits x hx).1
theorem Inv.C0 {S : RS} {M : MS} {n p0 : Nat} {q0 : Int} {ts : List (List Img)} (h : Inv S M n p0 q0 ts) : 0 < M.g.C := by have := (Geo.nats h.good).c1; omega
/-- Where everything is on the disk. -/
theorem Inv.room {S : RS} {M : MS} {n p0 : Nat} {q0 : Int} {ts : List (List Img)} (h : Inv S M n p0 q0 ts) : 2 + M.g.C + M.g.P < S.n0 := by
  have hN := Geo.nats h.good
  have := h.n0
  have := hN.f
  have := hN.s1
  omega
theorem RingIs.to {S T : RS} {C p0 : Nat} {q0 : Int} {ts : List (List Img)} (h : RingIs S 2 C p0 q0 ts) (hn : T.n0 = S.n0) (hr : ∀ k, k < (layB q0 ts).length → T.rd (plc 2 C p0 k) = S.rd (plc 2 C p0 k)) : RingIs T 2 C p0 q0 ts :=
  ⟨by rw [hn]; exact h.room, h.two, h.most, h.at0, h.seq, h.ok, h.fits, fun k hk => by rw [hr k hk]; exact h.lay k hk⟩
theorem Inv.move {S T : RS} {M : MS} {n p0 : Nat} {q0 : Int} {ts : List (List Img)} (h : Inv S M n p0 q0 ts) (hn0 : T.n0 = S.n0) (hn1 : T.n1 = S.n1) (hd : T.Dry) (hb : T.BB)
    (hsup : ∀ i, i < 2 → T.rd i = S.rd i) (hm : List (List Int)) (hl : hm.length = M.g.P) (hmb : ∀ x ∈ hm, x.length = 48 ∧ IsBytes x) (hmh : ∀ i x, hm[i]? = some x → T.rd (M.g.H + i) = (homSct i x).bytes)
    (hring : ∀ k, k < (layB q0 ts).length → T.rd (plc 2 M.g.C p0 k) = S.rd (plc 2 M.g.C p0 k)) (hj : Junk T M.g.C p0 (layB q0 ts).length (q0 + ts.length)) (hrows : layTs hm ts = cutL M.b) :
    Inv T { M with home := hm } n p0 q0 ts where
  good := h.good
  n0 := by rw [hn0]; exact h.n0
  n1 := by rw [hn1]; exact h.n1
  dry := hd
  bb := hb
  sup1 := h.sup1
  sb := by
    show T.rd M.sup = _
    rw [hsup _ (by have := h.sup1; omega)]
    exact h.sb
  other := fun x hx => by
    rw [hn0, hn1, hsup _ (by show 1 - M.sup < 2; omega)] at hx
    exact h.other x hx
  gen := h.gen
  homl := hl
  homb := hmb
  hom := hmh
  ring := h.ring.to hn0 hring
  q := h.q
  junk := hj
  at0 := h.at0
  seq := h.seq
  used := h.used
  len := h.len
  bytes := h.bytes
  rows := hrows
theorem Junk.to {S T : RS} {C p0 L : Nat} {q : Int} (h : Junk S C p0 L q) (hr : ∀ k, L ≤ k → k < C → T.rd (plc 2 C p0 k) = S.rd (plc 2 C p0 k)) : Junk T C p0 L q := fun k h1 h2 => by
  rw [hr k h1 h2]
  exact h k h1 h2
/-- Nothing has changed. -/
theorem Inv.same {S T : RS} {M : MS} {n p0 : Nat} {q0 : Int} {ts : List (List Img)} (h : Inv S M n p0 q0 ts) (k : FullW S T []) : Inv T M n p0 q0 ts := by
  have hr := h.room
  have hC := h.C0
  have hp := fun k => plc_in hC p0 k
  have e : ∀ i, i < S.n0 → T.rd i = S.rd i := fun i hi => k.else_ i hi (by simp)
  refine h.move k.n0 k.n1 k.dry k.bb (fun i hi => e i (by omega)) M.home h.homl h.homb (fun i x hx => ?_) (fun k _ => e _ (by have := hp k; omega)) (h.junk.to fun k _ _ => e _ (by have := hp k; omega)) h.rows
  have hi : i < M.g.P := by rw [← h.homl]; exact (List.getElem?_eq_some_iff.1 hx).1
  rw [e _ (by unfold Geo.H; omega)]
  exact h.hom i x hx
theorem Inv.mono {S : RS} {M : MS} {n p0 : Nat} {q0 : Int} {ts : List (List Img)} (h : Inv S M n p0 q0 ts) : Inv S M (n + 1) p0 q0 ts :=
  { h with gen := ⟨h.gen.1, by have := h.gen.2; omega⟩, q := ⟨h.q.1, by have := h.q.2; omega⟩ }
theorem homW_mem {M : MS} {i : Nat} {v : List Value} (h : (i, v) ∈ M.homW) : ∃ j, j < M.g.P ∧ i = M.g.H + j ∧ (cutL M.b)[j]? ≠ M.home[j]? ∧ v = u8s (homSct j (piece M.b j)).bytes := by
  unfold MS.homW at h
  obtain ⟨j, hj, e⟩ := List.mem_map.1 h
  obtain ⟨h1, h2⟩ := List.mem_filter.1 hj
  cases e
  exact ⟨j, List.mem_range.1 h1, rfl, of_decide_eq_true h2, rfl⟩
theorem homW_in {M : MS} {j : Nat} (hj : j < M.g.P) (hne : (cutL M.b)[j]? ≠ M.home[j]?) : (M.g.H + j, u8s (homSct j (piece M.b j)).bytes) ∈ M.homW := by
  unfold MS.homW
  exact List.mem_map.2 ⟨j, List.mem_filter.2 ⟨List.mem_range.2 hj, decide_eq_true hne⟩, rfl⟩
theorem Inv.pcs {S : RS} {M : MS} {n p0 : Nat} {q0 : Int} {ts : List (List Img)} (h : Inv S M n p0 q0 ts) : nPcs M.b = M.g.P := by
  unfold nPcs
  rw [h.len, (Geo.nats h.good).bp]
theorem Inv.cut_get {S : RS} {M : MS} {n p0 : Nat} {q0 : Int} {ts : List (List Img)} (h : Inv S M n p0 q0 ts) {i : Nat} (hi : i < M.g.P) : (cutL M.b)[i]? = some (piece M.b i) := cutL_get _ (by rw [h.pcs]; exact hi)
/-- **Some home pages are written.** -/
theorem Inv.home_part {S T : RS} {M : MS} {n p0 : Nat} {q0 : Int} {ts : List (List Img)} (h : Inv S M n p0 q0 ts) (k : PartW S T M.homW) : ∃ hm, Inv T { M with home := hm } n p0 q0 ts := by
  have hr := h.room
  have hC := h.C0
  have hp := fun k => plc_in hC p0 k
  have e : ∀ i, i < 2 + M.g.C → T.rd i = S.rd i := fun i hi => k.far (by omega) fun b hb => by
    obtain ⟨j, _, e, _⟩ := homW_mem hb
    unfold Geo.H at e
    omega
  have hget : ∀ i, i < M.g.P → ∃ x, M.home[i]? = some x := fun i hi => ⟨_, List.getElem?_eq_getElem (by rw [h.homl]; exact hi)⟩
  have hpcb := piece_bytes h.bytes
  obtain ⟨f, hf⟩ : ∃ f : Nat → List Int, f = fun i => if T.rd (M.g.H + i) = S.rd (M.g.H + i) then M.home[i]?.getD [] else piece M.b i := ⟨_, rfl⟩
  have hfi : ∀ i x, ((List.range M.g.P).map f)[i]? = some x → i < M.g.P ∧ x = f i := fun i x hx => by
    have hi : i < M.g.P := by have := (List.getElem?_eq_some_iff.1 hx).1; simpa using this
    rw [List.getElem?_map, List.getElem?_range hi] at hx
    exact ⟨hi, (Option.some.inj hx).symm⟩
  have hfa : ∀ i, i < M.g.P → ((List.range M.g.P).map f)[i]? = some (f i) := fun i hi => by rw [List.getElem?_map, List.getElem?_range hi]; rfl
  have hcase : ∀ i, i < M.g.P → (f i = M.home[i]?.getD [] ∧ T.rd (M.g.H + i) = S.rd (M.g.H + i)) ∨ (f i = piece M.b i ∧ T.rd (M.g.H + i) = (homSct i (piece M.b i)).bytes) := fun i hi => by
    by_cases hs : T.rd (M.g.H + i) = S.rd (M.g.H + i)
    · left; rw [hf]; exact ⟨if_pos hs, hs⟩
    · right
      rcases k.or_ (M.g.H + i) (by unfold Geo.H; omega) with h1 | ⟨b, hb, h1⟩
      · exact absurd h1 hs
      · obtain ⟨j, hj, e1, _, e2⟩ := homW_mem hb
        obtain rfl : i = j := by omega
        rw [hf]
        exact ⟨if_neg hs, by rw [h1, e2]; exact byt_u8s _⟩
  refine ⟨(List.range M.g.P).map f, h.move k.n0 k.n1 k.dry k.bb (fun i hi => e i (by omega)) _ (by simp) (fun x hx => ?_) (fun i x hx => ?_) (fun k _ => e _ (by have := hp k; omega)) (h.junk.to fun k _ _ => e _ (by have := hp k; omega)) ?_⟩
  · obtain ⟨i, hi0⟩ := List.mem_iff_getElem?.1 hx
    obtain ⟨hi, rfl⟩ := hfi i x hi0
    rcases hcase i hi with h1 | h1
    · obtain ⟨y, hy⟩ := hget i hi
      rw [h1.1, hy]
      exact h.homb _ (List.mem_of_getElem? hy)
    · rw [h1.1]
      exact ⟨piece_length _ _, hpcb i⟩
  · obtain ⟨hi, rfl⟩ := hfi i x hx
    rcases hcase i hi with h1 | h1
    · obtain ⟨y, hy⟩ := hget i hi
      rw [h1.1, h1.2, hy]
      exact h.hom i y hy
    · rw [h1.1, h1.2]
  · refine layTs_mix h.idx h.rows (by simp [h.homl]) fun i => ?_
    by_cases hi : i < M.g.P
    · rw [hfa i hi]
      rcases hcase i hi with h1 | h1
      · left
        obtain ⟨y, hy⟩ := hget i hi
        rw [h1.1, hy]
        rfl
      · right; rw [h1.1, h.cut_get hi]
    · left
      rw [List.getElem?_eq_none (by simp; omega), List.getElem?_eq_none (by rw [h.homl]; omega)]
/-- **All home pages that differ are written.** -/
theorem Inv.home_full {S T : RS} {M : MS} {n p0 : Nat} {q0 : Int} {ts : List (List Img)} (h : Inv S M n p0 q0 ts) (k : FullW S T M.homW) : Inv T { M with home := cutL M.b } n p0 q0 ts := by
  have hr := h.room
  have hC := h.C0
  have hp := fun k => plc_in hC p0 k
  have hpcb := piece_bytes h.bytes
  have e : ∀ i, i < 2 + M.g.C → T.rd i = S.rd i := fun i hi => k.else' (by omega) fun b hb => by
    obtain ⟨j, _, e, _⟩ := homW_mem hb
    unfold Geo.H at e
    omega
  have hci : ∀ i x, (cutL M.b)[i]? = some x → i < M.g.P ∧ x = piece M.b i := fun i x hx => by
    have hi : i < M.g.P := by have := (List.getElem?_eq_some_iff.1 hx).1; rwa [cutL_length, h.pcs] at this
    rw [h.cut_get hi] at hx
    exact ⟨hi, (Option.some.inj hx).symm⟩
  refine h.move k.n0 k.n1 k.dry k.bb (fun i hi => e i (by omega)) _ (by rw [cutL_length, h.pcs]) (fun x hx => ?_) (fun i x hx => ?_) (fun k _ => e _ (by have := hp k; omega)) (h.junk.to fun k _ _ => e _ (by have := hp k; omega)) ?_
  · obtain ⟨i, hi0⟩ := List.mem_iff_getElem?.1 hx
    obtain ⟨hi, rfl⟩ := hci i x hi0
    exact ⟨piece_length _ _, hpcb i⟩
  · obtain ⟨hi, rfl⟩ := hci i x hx
    by_cases hne : (cutL M.b)[i]? ≠ M.home[i]?
    · rw [k.at_ _ _ (homW_in hi hne)]
      exact byt_u8s _
    · rw [k.else' (by unfold Geo.H; omega) fun b hb => by
        obtain ⟨j, _, e1, h2, _⟩ := homW_mem hb
        obtain rfl : i = j := by omega
        exact hne h2]
      exact h.hom i _ ((Classical.not_not.1 hne).symm.trans hx)
  · exact layTs_mix h.idx h.rows (by rw [cutL_length, h.pcs, h.homl]) fun i => .inr rfl
/-- **The superblock is written.** -/
theorem Inv.sup_full {S T : RS} {M : MS} {n p0 : Nat} {q0 : Int} {ts : List (List Img)} (h : Inv S M n p0 q0 ts) (hn : n ≤ 100000) (hh : M.home = cutL M.b) (k : FullW S T M.supW) : Inv T M.ckpt (n + 1) M.at0 M.seq [] := by
  have hN := Geo.nats h.good
  have hr := h.room
  have hC := h.C0
  have hp := fun a k => plc_in hC a k
  have hs1 := h.sup1
  have hq := h.q
  have e : ∀ i, i < S.n0 → i ≠ 1 - M.sup → T.rd i = S.rd i := fun i hi hne => k.else_ i hi (by simp [MS.supW]; exact hne)
  have hat : T.rd (1 - M.sup) = (supSct (M.gen + 1) M.g M.at0 M.seq).bytes := by
    rw [k.at_ (1 - M.sup) (u8s (supSct (M.gen + 1) M.g M.at0 M.seq).bytes) (by simp [MS.supW])]
    exact byt_u8s _
  have hsq : IsSeq M.seq := by rw [h.seq]; exact ⟨by omega, by omega⟩
  have ha : M.at0 < M.g.C := by rw [h.at0]; exact Nat.mod_lt _ hC
  have hsup := supOf_sup (isSeq_of hn h.gen) h.good h.n0 h.n1 (show (p0 : Int) < M.g.r by have := h.ring.at0; have := hN.c; omega) h.ring.seq
  refine { good := h.good, n0 := by rw [k.n0]; exact h.n0, n1 := by rw [k.n1]; exact h.n1, dry := k.dry, bb := k.bb, sup1 := by show 1 - M.sup ≤ 1; omega, sb := hat, other := fun x hx => ?_, gen := ?_, homl := ?_, homb := ?_, hom := fun i x hx => ?_, ring := ⟨by rw [k.n0]; show 2 + M.g.C ≤ _; omega, by show 2 ≤ M.g.C; have := hN.c1; omega, hN.c2, ha, hsq, fun t ht => (by cases ht), Nat.zero_le _, fun k hk => (by simp [layB] at hk)⟩, q := ?_, junk := fun j _ hj => ?_, at0 := ?_, seq := ?_, used := rfl, len := h.len, bytes := h.bytes, rows := rfl }
  · have e1 : (1 - M.ckpt.sup) = M.sup := by show 1 - (1 - M.sup) = M.sup; omega
    rw [e1, k.n0, k.n1, e _ (by omega) (by omega), h.sb, hsup] at hx
    cases hx
    show M.gen < M.gen + 1
    omega
  · have := h.gen
    show 1 ≤ M.gen + 1 ∧ M.gen + 1 ≤ ((n + 1 : Nat) : Int) + 1
    omega
  · show (cutL M.b).length = M.g.P
    rw [← hh]; exact h.homl
  · show ∀ x ∈ cutL M.b, _
    rw [← hh]; exact h.homb
  · have hx : (cutL M.b)[i]? = some x := hx
    rw [← hh] at hx
    have hi : i < M.g.P := by rw [← h.homl]; exact (List.getElem?_eq_some_iff.1 hx).1
    show T.rd (M.g.H + i) = _
    rw [e _ (by unfold Geo.H; omega) (by unfold Geo.H; omega)]
    exact h.hom i x hx
  · rw [h.seq]
    show 1 ≤ q0 + ts.length ∧ q0 + ts.length + ((0 : Nat) : Int) ≤ ((n + 1 : Nat) : Int) + 1
    omega
  · have hj : j < M.g.C := hj
    have e2 : M.seq + (([] : List (List Img)).length : Int) = q0 + ts.length := by rw [h.seq]; simp
    rw [e2]
    have eT : T.rd (plc 2 M.ckpt.g.C M.at0 j) = S.rd (plc 2 M.g.C p0 ((layB q0 ts).length + j)) := by
      show T.rd (plc 2 M.g.C M.at0 j) = _
      rw [e _ (by have := hp M.at0 j; omega) (by have := hp M.at0 j; omega), h.at0, plc_add]
    rw [eT]
    exact ring_turn h.ring (by omega) h.junk hj
  · show M.at0 = (M.at0 + 0) % M.g.C
    rw [Nat.add_zero, Nat.mod_eq_of_lt ha]
  · show M.seq = M.seq + ((0 : Nat) : Int)
    omega
end Go.Proofs.YtbdfllamhcodjaaGreat

/- A transaction behind those of a Meta: whole, or in part. -/
namespace Go.Proofs.YtbdfllamhcodjaaGreat
open Go.RowKit
set_option linter.unusedVariables false

section
variable {S T U : RS} {M : MS} {n p0 : Nat} {q0 : Int} {ts : List (List Img)} {b : List Int}
theorem imgW_mem {C a : Nat} {q : Int} {t : List Img} {i : Nat} {v : List Value} (h : (i, v) ∈ (txnW 2 C a q t).take t.length) : ∃ k x, k < t.length ∧ t[k]? = some x ∧ i = plc 2 C a k ∧ v = u8s (imgSct q x).bytes := by
  obtain ⟨k, hk⟩ := List.mem_iff_getElem?.1 h
  rw [List.getElem?_take] at hk
  split at hk
  case isTrue hlt =>
    have hx := List.getElem?_eq_getElem hlt
    have hb : (txnB q t)[k]? = some (imgSct q t[k]).bytes := by
      unfold txnB
      rw [List.getElem?_append_left (by simpa using hlt), List.getElem?_map, hx]
      rfl
    have := txnW_get (frm := 2) (count := C) (at0 := a) hb
    rw [this] at hk
    cases hk
    exact ⟨k, t[k], hlt, hx, rfl, rfl⟩
  case isFalse => cases hk
theorem imgW_in {C a : Nat} {q : Int} {t : List Img} {k : Nat} {x : Img} (h : t[k]? = some x) : (plc 2 C a k, u8s (imgSct q x).bytes) ∈ (txnW 2 C a q t).take t.length := by
  have hlt := (List.getElem?_eq_some_iff.1 h).1
  have hb : (txnB q t)[k]? = some (imgSct q x).bytes := by
    unfold txnB
    rw [List.getElem?_append_left (by simpa using hlt), List.getElem?_map, h]
    rfl
  refine List.mem_iff_getElem?.2 ⟨k, ?_⟩
  rw [List.getElem?_take, if_pos hlt]
  exact txnW_get hb
theorem com_in (C a : Nat) (q : Int) (t : List Img) : (txnW 2 C a q t).drop t.length = [(plc 2 C a t.length, u8s (comSct q t.length).bytes)] := com_eq (txnB_last q t)
/-- What a Commit's transaction is. -/
theorem Inv.txn (h : Inv S M n p0 q0 ts) (hl : b.length = M.b.length) (hb : IsBytes b) (hd : M.dif b ≠ []) : TxnOk M.g.C (M.dif b) := by
  have hN := Geo.nats h.good
  have hp : nPcs b = M.g.P := by unfold nPcs; rw [hl, h.len, hN.bp]
  have hle : (M.dif b).length ≤ M.g.P := by
    have := difL_length (cutL M.b) (cutL b)
    rwa [cutL_length b, hp] at this
  have hx : ∀ x ∈ M.dif b, ∃ i : Nat, i < M.g.P ∧ x = ⟨(i : Int), piece b i⟩ := fun x hx => by
    obtain ⟨i, rfl, hi, _⟩ := difL_idx _ _ x hx
    rw [cutL_length, hp] at hi
    refine ⟨i, hi, ?_⟩
    rw [cutL_get b (by rw [hp]; exact hi)]
    rfl
  refine ⟨?_, by have := hN.c1; omega, fun x hxm => ?_, fun x hxm => ?_⟩
  · rcases Nat.eq_zero_or_pos (M.dif b).length with h0 | h0
    · exact absurd (List.eq_nil_of_length_eq_zero h0) hd
    · exact h0
  · obtain ⟨i, hi, rfl⟩ := hx x hxm
    exact ⟨piece_length _ _, piece_bytes hb i⟩
  · obtain ⟨i, hi, rfl⟩ := hx x hxm
    have := hN.p2
    exact ⟨Int.natCast_nonneg i, by show (i : Int) ≤ 65535; omega⟩
/-- **Some images of one more are written.** -/
theorem Inv.app_part (h : Inv S M n p0 q0 ts) (hn : n ≤ 100000) {t : List Img} (ht : TxnOk M.g.C t) (hfit : M.used + t.length + 1 ≤ M.g.C) (k : PartW S T ((txnW 2 M.g.C M.at0 M.seq t).take t.length)) : Inv T M n p0 q0 ts := by
  have hr := h.room
  have hC := h.C0
  have hq := h.q
  have hp := fun a k => plc_in hC a k
  have hsq : IsSeq M.seq := by rw [h.seq]; exact ⟨by omega, by omega⟩
  have hu := h.used
  have far : ∀ i, i < S.n0 → (∀ j, j < t.length → i ≠ plc 2 M.g.C p0 ((layB q0 ts).length + j)) → T.rd i = S.rd i := fun i hi hne => k.far hi fun v hv => by
    obtain ⟨j, x, hj, _, e, _⟩ := imgW_mem hv
    rw [h.at0, plc_add] at e
    exact hne j hj e
  have inj : ∀ i j, i < M.g.C → j < M.g.C → plc 2 M.g.C p0 i = plc 2 M.g.C p0 j → i = j := fun i j hi hj e => plc_inj (frm := 2) (at0 := p0) hi hj e
  refine h.move k.n0 k.n1 k.dry k.bb (fun i hi => far i (by omega) fun j _ => by have := hp p0 ((layB q0 ts).length + j); omega) M.home h.homl h.homb (fun i x hx => ?_) (fun j hj => far _ (by have := hp p0 j; omega) fun i hi e => ?_) (fun j h1 h2 => ?_) h.rows
  · have hi : i < M.g.P := by rw [← h.homl]; exact (List.getElem?_eq_some_iff.1 hx).1
    rw [far _ (by unfold Geo.H; omega) fun j _ => by have := hp p0 ((layB q0 ts).length + j); unfold Geo.H; omega]
    exact h.hom i x hx
  · have := inj j ((layB q0 ts).length + i) (by omega) (by omega) e
    omega
  · rcases k.or_ (plc 2 M.g.C p0 j) (by have := hp p0 j; omega) with e | ⟨v, hv, e⟩
    · rw [e]; exact h.junk j h1 h2
    · obtain ⟨i, x, hi, hx, e1, e2⟩ := imgW_mem hv
      have hm := List.mem_of_getElem? hx
      have hv' : T.rd (plc 2 M.g.C p0 j) = (imgSct M.seq x).bytes := by rw [e, e2]; exact byt_u8s _
      rw [hv', (decOk_bytes (imgSct_ok hsq (ht.ok x hm)) (imgSct_fits (seq := M.seq) (ht.fits x hm))).2]
      exact .inr (.inr ⟨h.seq, by show (73 : Int) ≠ 67; omega⟩)
/-- **One more is written whole.** -/
theorem Inv.app_full (h : Inv S M n p0 q0 ts) (hn : n ≤ 100000) (hl : b.length = M.b.length) (hb : IsBytes b) (hd : M.dif b ≠ []) (hfit : M.used + (M.dif b).length + 1 ≤ M.g.C)
    (k1 : FullW S U ((txnW 2 M.g.C M.at0 M.seq (M.dif b)).take (M.dif b).length)) (k2 : FullW U T ((txnW 2 M.g.C M.at0 M.seq (M.dif b)).drop (M.dif b).length)) : Inv T (M.app b) (n + 1) p0 q0 (ts ++ [M.dif b]) := by
  have hN := Geo.nats h.good
  have ht := h.txn hl hb hd
  generalize htt : M.dif b = t at *
  have hr := h.room
  have hC := h.C0
  have hq := h.q
  have hp := fun a k => plc_in hC a k
  have hsq : IsSeq M.seq := by rw [h.seq]; exact ⟨by omega, by omega⟩
  have hu := h.used
  have eseq : seqAt q0 ts.length = M.seq := by rw [seqAt_small h.ring.seq.1 (by omega), h.seq]
  rw [com_in] at k2
  have inj : ∀ i j, i < M.g.C → j < M.g.C → plc 2 M.g.C p0 i = plc 2 M.g.C p0 j → i = j := fun i j hi hj e => plc_inj (frm := 2) (at0 := p0) hi hj e
  have hpl : ∀ k, plc 2 M.g.C M.at0 k = plc 2 M.g.C p0 ((layB q0 ts).length + k) := fun k => by rw [h.at0, plc_add]
  have hn0 : T.n0 = S.n0 := k2.n0.trans k1.n0
  have far : ∀ i, i < S.n0 → (∀ j, j ≤ t.length → i ≠ plc 2 M.g.C M.at0 j) → T.rd i = S.rd i := fun i hi hne => by
    rw [k2.else' (by rw [k1.n0]; exact hi) fun v hv => by
      simp only [List.mem_singleton, Prod.mk.injEq] at hv
      exact hne _ (Nat.le_refl _) hv.1]
    exact k1.else' hi fun v hv => by
      obtain ⟨j, x, hj, _, e, _⟩ := imgW_mem hv
      exact hne j (by omega) e
  have new : ∀ j v, (txnB M.seq t)[j]? = some v → T.rd (plc 2 M.g.C M.at0 j) = v := fun j v hv => by
    have hj : j < t.length + 1 := by have := (List.getElem?_eq_some_iff.1 hv).1; rwa [txnB_length] at this
    by_cases hjt : j = t.length
    · subst hjt
      rw [txnB_last] at hv
      cases hv
      rw [k2.at_ _ _ (List.mem_singleton.2 rfl)]
      exact byt_u8s _
    · have hx : t[j]? = some t[j] := List.getElem?_eq_getElem (by omega)
      have hv' : v = (imgSct M.seq t[j]).bytes := by
        unfold txnB at hv
        rw [List.getElem?_append_left (by simp; omega), List.getElem?_map, hx] at hv
        exact (Option.some.inj hv).symm
      rw [k2.else' (by rw [k1.n0]; have := hp M.at0 j; omega) fun w hw => by
        simp only [List.mem_singleton, Prod.mk.injEq] at hw
        have := plc_inj (frm := 2) (at0 := M.at0) (count := M.g.C) (j := j) (k := t.length) (by omega) (by omega) hw.1
        omega]
      rw [k1.at_ _ _ (imgW_in hx), hv']
      exact byt_u8s _
  have hring : RingIs T 2 M.g.C p0 q0 (ts ++ [t]) := by
    refine h.ring.more ht (by omega) hn0 (fun k v hv => ?_) (fun i hi hno => far i hi fun j hj => ?_)
    · rw [eseq] at hv
      rw [← h.at0]
      exact new k v hv
    · have := hno j hj
      rwa [← h.at0] at this
  have hlen : (layB q0 (ts ++ [t])).length = (layB q0 ts).length + t.length + 1 := by
    rw [layB_append _ _ _ h.ring.seq, layB_one, List.length_append, txnB_length]; omega
  have hlow : ∀ i, i < 2 → T.rd i = S.rd i := fun i hi => far i (by omega) fun j _ => by have := hp M.at0 j; omega
  have hP : nPcs b = M.g.P := by unfold nPcs; rw [hl, h.len, hN.bp]
  refine { good := h.good, n0 := by rw [hn0]; exact h.n0, n1 := by rw [k2.n1, k1.n1]; exact h.n1, dry := k2.dry, bb := k2.bb, sup1 := h.sup1, sb := ?_, other := fun x hx => ?_, gen := ⟨h.gen.1, by have := h.gen.2; show M.gen ≤ ((n + 1 : Nat) : Int) + 1; omega⟩, homl := h.homl, homb := h.homb, hom := fun i x hx => ?_, ring := hring, q := ⟨hq.1, ?_⟩, junk := fun j h1 h2 => ?_, at0 := ?_, seq := ?_, used := ?_, len := by show b.length = _; rw [hl]; exact h.len, bytes := hb, rows := ?_ }
  · show T.rd M.sup = _
    rw [hlow _ (by have := h.sup1; omega)]
    exact h.sb
  · rw [hn0, k2.n1, k1.n1, hlow _ (by show 1 - M.sup < 2; omega)] at hx
    exact h.other x hx
  · have hi : i < M.g.P := by rw [← h.homl]; exact (List.getElem?_eq_some_iff.1 hx).1
    show T.rd (M.g.H + i) = _
    rw [far _ (by unfold Geo.H; omega) fun j _ => by have := hp M.at0 j; unfold Geo.H; omega]
    exact h.hom i x hx
  · rw [List.length_append, List.length_singleton]
    omega
  · rw [hlen] at h1
    have h2 : j < M.g.C := h2
    show decOk (T.rd (plc 2 M.g.C p0 j)) = false ∨ (Sct.of (T.rd (plc 2 M.g.C p0 j))).seq < q0 + ((ts ++ [t]).length : Int) ∨ ((Sct.of (T.rd (plc 2 M.g.C p0 j))).seq = q0 + ((ts ++ [t]).length : Int) ∧ (Sct.of (T.rd (plc 2 M.g.C p0 j))).mark ≠ 67)
    rw [far _ (by have := hp p0 j; omega) fun i hi e => by
      rw [hpl] at e
      have := inj j ((layB q0 ts).length + i) h2 (by omega) e
      omega]
    rw [List.length_append, List.length_singleton]
    rcases h.junk j (by omega) h2 with h3 | h3 | h3
    · exact .inl h3
    · exact .inr (.inl (by omega))
    · exact .inr (.inl (by have := h3.1; omega))
  · show (M.at0 + (M.dif b).length + 1) % M.g.C = (p0 + (layB q0 (ts ++ [t])).length) % M.g.C
    rw [htt, h.at0, hlen, Nat.add_assoc, Nat.mod_add_mod]
    congr 1
    omega
  · show M.seq + 1 = q0 + ((ts ++ [t]).length : Int)
    rw [h.seq, List.length_append, List.length_singleton]
    omega
  · show M.used + (M.dif b).length + 1 = (layB q0 (ts ++ [t])).length
    rw [htt, hlen, h.used]
  · show layTs M.home (ts ++ [t]) = cutL b
    rw [layTs_snoc, h.rows, ← htt]
    exact layT_dif (by rw [cutL_length, cutL_length, h.pcs, hP])
end
end Go.Proofs.YtbdfllamhcodjaaGreat

/- **Commit**, done or cut. -/
namespace Go.Proofs.YtbdfllamhcodjaaGreat
open Go.RowKit
set_option linter.unusedVariables false

theorem FullW.part {S T : RS} {W : Wrs} (h : FullW S T W) : PartW S T W := ⟨h.n0, h.n1, h.dry, h.bb, fun i hi => by
  by_cases hm : i ∈ W.map (·.1)
  · obtain ⟨x, hx, rfl⟩ := List.mem_map.1 hm
    exact .inr ⟨x.2, hx, h.at_ _ _ hx⟩
  · exact .inl (h.else_ i hi hm)⟩
theorem PartW.then0 {S U T : RS} {W : Wrs} (h : PartW S U W) (k : FullW U T []) : PartW S T W := ⟨k.n0.trans h.n0, k.n1.trans h.n1, k.dry, k.bb, fun i hi => by
  rw [k.else_ i (by rw [h.n0]; exact hi) (by simp)]
  exact h.or_ i hi⟩
theorem bb_u8s {p : Sct} (h : p.Ok) : BB (u8s p.bytes) := ⟨p.bytes, rfl, Sct.bytes_bytes h, Sct.bytes_length h⟩
section
variable {S T U : RS} {M : MS} {n p0 : Nat} {q0 : Int} {ts : List (List Img)} {b : List Int}
theorem Inv.homW_ok (h : Inv S M n p0 q0 ts) : BatOk S M.homW := by
  have hr := h.room
  refine ⟨fun x hx => ?_, ?_, fun x hx => ?_⟩
  · obtain ⟨j, hj, e, _⟩ := homW_mem (i := x.1) (v := x.2) hx
    rw [e]
    unfold Geo.H
    omega
  · unfold MS.homW
    rw [List.map_map]
    refine List.pairwise_map.2 ((List.nodup_range.filter _).imp fun {i j} hne e => hne ?_)
    have e : M.g.H + i = M.g.H + j := e
    omega
  · obtain ⟨j, hj, _, _, e⟩ := homW_mem (i := x.1) (v := x.2) hx
    rw [e]
    exact bb_u8s (homSct_ok (piece_length _ _) (piece_bytes h.bytes j))
theorem Inv.supW_ok (h : Inv S M n p0 q0 ts) (hn : n ≤ 100000) : BatOk S M.supW := by
  have hr := h.room
  have hg := h.gen
  refine ⟨fun x hx => ?_, by simp [MS.supW], fun x hx => ?_⟩
  · rw [List.mem_singleton.1 hx]
    show 1 - M.sup < _
    omega
  · rw [List.mem_singleton.1 hx]
    exact bb_u8s (supSct_ok ⟨by omega, by omega⟩ _ _ _)
theorem Inv.appW_ok (h : Inv S M n p0 q0 ts) (hn : n ≤ 100000) (ht : TxnOk M.g.C (M.dif b)) : ∀ l ∈ M.appW b, BatOk S l := by
  have hr := h.room
  have hq := h.q
  have hC := h.C0
  have hsq : IsSeq M.seq := by rw [h.seq]; exact ⟨by omega, by omega⟩
  have hlt := txnW_lt (S := S) (frm := 2) (at0 := M.at0) (seq := M.seq) (t := M.dif b) hC (by omega)
  have hnd := txnW_nodup (frm := 2) (at0 := M.at0) (seq := M.seq) ht.most
  have hbb := txnW_bb (frm := 2) (count := M.g.C) (at0 := M.at0) hsq ht.ok
  intro l hl
  unfold MS.appW at hl
  rcases List.mem_cons.1 hl with rfl | hl
  · exact ⟨fun x hx => hlt x (List.mem_of_mem_take hx), by rw [List.map_take]; exact hnd.sublist (List.take_sublist _ _), fun x hx => hbb x (List.mem_of_mem_take hx)⟩
  · obtain rfl := List.mem_singleton.1 hl
    exact ⟨fun x hx => hlt x (List.mem_of_mem_drop hx), by rw [List.map_drop]; exact hnd.sublist (List.drop_sublist _ _), fun x hx => hbb x (List.mem_of_mem_drop hx)⟩
theorem Inv.bats_ok (h : Inv S M n p0 q0 ts) (hn : n ≤ 100000) (hl : b.length = M.b.length) (hb : IsBytes b) : ∀ l ∈ M.bats b, BatOk S l := by
  intro l hm
  unfold MS.bats at hm
  split at hm
  · cases hm
  · next hd =>
    have ht := h.txn hl hb hd
    rcases List.mem_append.1 hm with hm | hm
    · split at hm
      · rcases List.mem_cons.1 hm with rfl | hm
        · exact h.homW_ok
        · obtain rfl := List.mem_singleton.1 hm
          exact h.supW_ok hn
      · cases hm
    · exact h.appW_ok hn ht l hm
/-- What is left of a transaction's batches. -/
theorem Inv.app_goes (h : Inv S M n p0 q0 ts) (hn : n ≤ 100000) (hl : b.length = M.b.length) (hb : IsBytes b) (hd : M.dif b ≠ []) (hfit : M.used + (M.dif b).length + 1 ≤ M.g.C) (k : GoesW S (M.appW b) T) :
    ∃ M' us, Inv T M' (n + 1) p0 q0 us ∧ M'.g = M.g ∧ (M'.b = M.b ∨ M'.b = b) := by
  have ht := h.txn hl hb hd
  have hr := h.room
  unfold MS.appW at k
  cases k with
  | part k => exact ⟨M, ts, (h.app_part hn ht hfit k).mono, rfl, .inl rfl⟩
  | step k1 k =>
    cases k with
    | part k =>
      rw [com_in] at k
      rcases k.one (by rw [k1.n0]; have := plc_in h.C0 M.at0 (M.dif b).length; omega) with k | k
      · exact ⟨M, ts, (h.app_part hn ht hfit (k1.part.then0 k)).mono, rfl, .inl rfl⟩
      · exact ⟨M.app b, _, h.app_full hn hl hb hd hfit k1 (by rw [com_in]; exact k), rfl, .inr rfl⟩
    | step k2 k =>
      cases k with
      | nil k => exact ⟨M.app b, _, (h.app_full hn hl hb hd hfit k1 k2).same k, rfl, .inr rfl⟩
theorem Inv.app_all (h : Inv S M n p0 q0 ts) (hn : n ≤ 100000) (hl : b.length = M.b.length) (hb : IsBytes b) (hd : M.dif b ≠ []) (hfit : M.used + (M.dif b).length + 1 ≤ M.g.C) (k : AllW S (M.appW b) T) : Inv T (M.app b) (n + 1) p0 q0 (ts ++ [M.dif b]) := by
  unfold MS.appW at k
  cases k with
  | step k1 k =>
    cases k with
    | step k2 k =>
      cases k with
      | nil k => exact (h.app_full hn hl hb hd hfit k1 k2).same k
theorem Inv.fits (h : Inv S M n p0 q0 ts) (hf : ¬ M.full b) : M.used + (M.dif b).length + 1 ≤ M.g.C := by
  have hN := Geo.nats h.good
  unfold MS.full MS.room at hf
  have := hN.c
  omega
/-- **A Commit that is done; one that is cut, and a crash.** -/
theorem Inv.cmt (h : Inv S M n p0 q0 ts) (hn : n ≤ 1000) (hl : b.length = M.b.length) (hb : IsBytes b) : ∃ T e, S.cmt M b = (T, e) ∧ T.n0 = S.n0 ∧ T.n1 = S.n1 ∧ T.BB ∧
    ((e = 0 ∧ ∃ p q us, Inv T (M.next b) (n + 2) p q us) ∨ (e = 14 ∧ ∀ b0 b1, ∃ M' p q us, Inv (T.crash b0 b1) M' (n + 2) p q us ∧ M'.g = M.g ∧ (M'.b = M.b ∨ M'.b = b))) := by
  obtain ⟨T, e, hT, t0, t1, tb, hc⟩ := RS.bat_spec (M.bats b) S h.dry h.bb (h.bats_ok (by omega) hl hb)
  refine ⟨T, e, hT, t0, t1, tb, ?_⟩
  by_cases hd : M.dif b = []
  · have e1 : M.bats b = [] := if_pos hd
    have e2 : M.next b = M := if_pos hd
    rw [e1] at hc
    rw [e2]
    rcases hc with ⟨he, hA⟩ | ⟨he, hG⟩
    · cases hA with
      | nil k => exact .inl ⟨he, p0, q0, ts, (h.same k).mono.mono⟩
    · refine .inr ⟨he, fun b0 b1 => ?_⟩
      cases hG b0 b1 with
      | nil k => exact ⟨M, p0, q0, ts, (h.same k).mono.mono, rfl, .inl rfl⟩
  · by_cases hf : M.full b
    · have e1 : M.bats b = M.homW :: M.supW :: M.appW b := by unfold MS.bats; rw [if_neg hd, if_pos hf]; rfl
      have e2 : M.next b = M.ckpt.app b := by unfold MS.next; rw [if_neg hd, if_pos hf]
      have hfit : M.ckpt.used + (M.ckpt.dif b).length + 1 ≤ M.ckpt.g.C := by
        have := (h.txn hl hb hd).most
        show 0 + (M.dif b).length + 1 ≤ M.g.C
        omega
      rw [e1] at hc
      rw [e2]
      rcases hc with ⟨he, hA⟩ | ⟨he, hG⟩
      · refine .inl ⟨he, ?_⟩
        cases hA with
        | step k1 k =>
          cases k with
          | step k2 k =>
            have h1 := h.home_full k1
            have h2 := h1.sup_full (by omega) rfl k2
            exact ⟨_, _, _, h2.app_all (by omega) hl hb hd hfit k⟩
      · refine .inr ⟨he, fun b0 b1 => ?_⟩
        cases hG b0 b1 with
        | part k =>
          obtain ⟨hm, h1⟩ := h.home_part k
          exact ⟨_, _, _, _, h1.mono.mono, rfl, .inl rfl⟩
        | step k1 k =>
          have h1 := h.home_full k1
          cases k with
          | part k =>
            rcases PartW.one k (by rw [k1.n0]; have := h.room; omega) with k | k
            · exact ⟨_, _, _, _, (h1.same k).mono.mono, rfl, .inl rfl⟩
            · exact ⟨_, _, _, _, (h1.sup_full (by omega) rfl k).mono, rfl, .inl rfl⟩
          | step k2 k =>
            have h2 := h1.sup_full (by omega) rfl k2
            obtain ⟨M', us, hI, e3, e4⟩ := h2.app_goes (by omega) hl hb hd hfit k
            exact ⟨M', _, _, us, hI, e3, e4⟩
    · have e1 : M.bats b = M.appW b := by unfold MS.bats; rw [if_neg hd, if_neg hf]; rfl
      have e2 : M.next b = M.app b := by unfold MS.next; rw [if_neg hd, if_neg hf]
      rw [e1] at hc
      rw [e2]
      rcases hc with ⟨he, hA⟩ | ⟨he, hG⟩
      · exact .inl ⟨he, _, _, _, (h.app_all (by omega) hl hb hd (h.fits hf) hA).mono⟩
      · refine .inr ⟨he, fun b0 b1 => ?_⟩
        obtain ⟨M', us, hI, e3, e4⟩ := h.app_goes (by omega) hl hb hd (h.fits hf) (hG b0 b1)
        exact ⟨M', _, _, us, hI.mono, e3, e4⟩
theorem MS.next_g (M : MS) (b : List Int) : (M.next b).g = M.g := by
  unfold MS.next
  split
  · rfl
  · split <;> rfl
/-- What is told behind a Commit. -/
theorem Inv.next_b (h : Inv S M n p0 q0 ts) (hl : b.length = M.b.length) : (M.next b).b = b := by
  unfold MS.next
  split
  · next hd =>
    have hp : nPcs b = nPcs M.b := by unfold nPcs; rw [hl]
    have e : cutL b = cutL M.b := by
      have := layT_dif (was := cutL M.b) (now := cutL b) (by rw [cutL_length, cutL_length, hp])
      unfold MS.dif at hd
      rw [hd] at this
      exact this.symm
    have e1 := cutL_flat b
    rw [e, hl, cutL_flat] at e1
    exact e1
  · split <;> rfl
end
end Go.Proofs.YtbdfllamhcodjaaGreat

/- **Format**; batches on a rig that is up. -/
namespace Go.Proofs.YtbdfllamhcodjaaGreat
open Go.RowKit
set_option linter.unusedVariables false

theorem byt_fill (n : Int) : byt (fillB n) = List.replicate 64 n := by
  unfold byt fillB
  rw [List.map_replicate]
  rfl
theorem RS.bat_up : ∀ (ls : List Wrs) (S : RS), S.Up → (∀ l ∈ ls, ∀ x ∈ l, x.1 < S.n0) → (S.bat ls).2 = 0 ∧ (S.bat ls).1.Up
  | [], S, hu, _ => ⟨rfl, hu⟩
  | l :: ls, S, hu, h => by
    obtain ⟨h1, h2⟩ := RS.Up.wrs l hu (h l List.mem_cons_self)
    have s1 := (RS.wrs_spec l S (h l List.mem_cons_self)).1
    rw [RS.bat_cons, if_neg (by rw [h1]; simp)]
    obtain ⟨u1, u2⟩ := h2.flush 0
    obtain ⟨s2, hf⟩ := RS.flush0 (S.wrs l).1
    have hE : (S.wrs l).1.flushE 0 = 0 := by
      rcases hf with ⟨_, h3, _⟩ | ⟨h3, _, _⟩
      · exact h3
      · rw [h2.ok] at h3; cases h3
    rw [if_neg (by omega)]
    exact RS.bat_up ls _ u1 fun k hk x hx => by rw [s2.n0, s1.n0]; exact h k (List.mem_cons_of_mem _ hk) x hx
theorem ringW_mem {C i : Nat} {v : List Value} (h : (i, v) ∈ (List.range C).map fun i => (2 + i, fillB 0)) : ∃ j, j < C ∧ i = 2 + j ∧ v = fillB 0 := by
  obtain ⟨j, hj, e⟩ := List.mem_map.1 h
  cases e
  exact ⟨j, List.mem_range.1 hj, rfl, rfl⟩
theorem homA_mem {g : Geo} {b : List Int} {i : Nat} {v : List Value} (h : (i, v) ∈ (List.range g.P).map fun i => (g.H + i, u8s (homSct i (piece b i)).bytes)) : ∃ j, j < g.P ∧ i = g.H + j ∧ v = u8s (homSct j (piece b j)).bytes := by
  obtain ⟨j, hj, e⟩ := List.mem_map.1 h
  cases e
  exact ⟨j, List.mem_range.1 hj, rfl, rfl⟩
/-- Where a geometry's sectors are. -/
theorem Geo.room {g : Geo} (hg : g.good) {n0 : Nat} (h : g.oF ≤ n0) : 2 + g.C + g.P < n0 := by
  have hN := Geo.nats hg
  have := hN.f
  have := hN.s1
  omega
theorem fmt_ok {S : RS} {g : Geo} {b : List Int} (hg : g.good) (h0 : g.oF ≤ S.n0) (hb : IsBytes b) : ∀ l ∈ fmtB g b, BatOk S l := by
  have hr := Geo.room hg h0
  have hz : BB (fillB 0) := BB.fill (by omega)
  intro l hl
  unfold fmtB at hl
  rcases List.mem_cons.1 hl with rfl | hl
  · refine ⟨fun x hx => ?_, by simp, fun x hx => ?_⟩
    · rcases List.mem_cons.1 hx with rfl | hx
      · show 0 < _; omega
      · rw [List.mem_singleton.1 hx]; show 1 < _; omega
    · rcases List.mem_cons.1 hx with rfl | hx
      · exact hz
      · rw [List.mem_singleton.1 hx]; exact hz
  · rcases List.mem_cons.1 hl with rfl | hl
    · refine ⟨fun x hx => ?_, ?_, fun x hx => ?_⟩
      · rcases List.mem_append.1 hx with hx | hx
        · obtain ⟨j, hj, e, _⟩ := ringW_mem (i := x.1) (v := x.2) hx
          rw [e]; omega
        · obtain ⟨j, hj, e, _⟩ := homA_mem (i := x.1) (v := x.2) hx
          rw [e]; unfold Geo.H; omega
      · rw [List.map_append, List.map_map, List.map_map]
        have q1 : ((List.range g.C).map ((fun x : Nat × List Value => x.1) ∘ fun i => (2 + i, fillB 0))).Nodup := List.pairwise_map.2 (List.nodup_range.imp fun {i j} hne e => hne (by
          have e : 2 + i = 2 + j := e
          omega))
        have q2 : ((List.range g.P).map ((fun x : Nat × List Value => x.1) ∘ fun i => (g.H + i, u8s (homSct i (piece b i)).bytes))).Nodup := List.pairwise_map.2 (List.nodup_range.imp fun {i j} hne e => hne (by
          have e : g.H + i = g.H + j := e
          omega))
        refine List.nodup_append.2 ⟨q1, q2, fun a ha c hc e => ?_⟩
        obtain ⟨i, hi, rfl⟩ := List.mem_map.1 ha
        obtain ⟨j, hj, rfl⟩ := List.mem_map.1 hc
        have e : 2 + i = g.H + j := e
        have := List.mem_range.1 hi
        unfold Geo.H at e
        omega
      · rcases List.mem_append.1 hx with hx | hx
        · obtain ⟨j, hj, _, e⟩ := ringW_mem (i := x.1) (v := x.2) hx
          rw [e]; exact hz
        · obtain ⟨j, hj, _, e⟩ := homA_mem (i := x.1) (v := x.2) hx
          rw [e]; exact bb_u8s (homSct_ok (piece_length _ _) (piece_bytes hb j))
    · obtain rfl := List.mem_singleton.1 hl
      refine ⟨fun x hx => ?_, by simp, fun x hx => ?_⟩
      · rw [List.mem_singleton.1 hx]; show 0 < _; omega
      · rw [List.mem_singleton.1 hx]
        exact bb_u8s (supSct_ok ⟨by omega, by omega⟩ _ _ _)
/-- **What stands on the disk behind a Format.** -/
theorem fmt_inv {S T : RS} {g : Geo} {b : List Int} (hg : g.good) (h0 : g.oF ≤ S.n0) (h1 : g.oW ≤ S.n1) (hl : b.length = g.bts.toNat) (hb : IsBytes b) (k : AllW S (fmtB g b) T) : Inv T (MS.new g b) 0 0 1 [] := by
  have hN := Geo.nats hg
  have hr := Geo.room hg h0
  have hpc : nPcs b = g.P := by unfold nPcs; rw [hl, hN.bp]
  unfold fmtB at k
  cases k with
  | @step _ U1 _ _ _ k1 k =>
    cases k with
    | @step _ U2 _ _ _ k2 k =>
      cases k with
      | @step _ U3 _ _ _ k3 k =>
        cases k with
        | nil k4 =>
          have n3 : U2.n0 = S.n0 := k2.n0.trans k1.n0
          have hn0 : T.n0 = S.n0 := k4.n0.trans (k3.n0.trans n3)
          have hn1 : T.n1 = S.n1 := k4.n1.trans (k3.n1.trans (k2.n1.trans k1.n1))
          have hU3 : U3.n0 = S.n0 := k3.n0.trans n3
          have hlast : ∀ i, i < S.n0 → i ≠ 0 → T.rd i = U2.rd i := fun i hi hne => by
            rw [k4.else_ i (by rw [hU3]; exact hi) (by simp), k3.else' (by rw [n3]; exact hi) fun v hv => by
              simp only [List.mem_singleton, Prod.mk.injEq] at hv
              exact hne hv.1]
          have hz : ∀ i, 2 ≤ i → i < 2 + g.C → T.rd i = List.replicate 64 0 := fun i h2 h3 => by
            rw [hlast i (by omega) (by omega), k2.at_ i (fillB 0) (List.mem_append_left _ (List.mem_map.2 ⟨i - 2, List.mem_range.2 (by omega), by rw [show 2 + (i - 2) = i by omega]⟩))]
            exact byt_fill 0
          have h1z : T.rd 1 = List.replicate 64 0 := by
            rw [hlast 1 (by omega) (by omega), k2.else' (by rw [k1.n0]; omega) fun v hv => by
              rcases List.mem_append.1 hv with hv | hv
              · obtain ⟨j, hj, e, _⟩ := ringW_mem hv
                omega
              · obtain ⟨j, hj, e, _⟩ := homA_mem hv
                unfold Geo.H at e
                omega]
            rw [k1.at_ 1 (fillB 0) (by simp)]
            exact byt_fill 0
          have hh : ∀ i, i < g.P → T.rd (g.H + i) = (homSct i (piece b i)).bytes := fun i hi => by
            rw [hlast _ (by unfold Geo.H; omega) (by unfold Geo.H; omega), k2.at_ (g.H + i) _ (List.mem_append_right _ (List.mem_map.2 ⟨i, List.mem_range.2 hi, rfl⟩))]
            exact byt_u8s _
          have hsb : T.rd 0 = (supSct 1 g 0 1).bytes := by
            rw [k4.else_ 0 (by rw [hU3]; omega) (by simp), k3.at_ 0 _ (List.mem_singleton.2 rfl)]
            exact byt_u8s _
          have hci : ∀ i x, (cutL b)[i]? = some x → i < g.P ∧ x = piece b i := fun i x hx => by
            have hi : i < g.P := by have := (List.getElem?_eq_some_iff.1 hx).1; rwa [cutL_length, hpc] at this
            rw [cutL_get b (by rw [hpc]; exact hi)] at hx
            exact ⟨hi, (Option.some.inj hx).symm⟩
          refine { good := hg, n0 := by rw [hn0]; exact h0, n1 := by rw [hn1]; exact h1, dry := k4.dry, bb := k4.bb, sup1 := Nat.zero_le _, sb := hsb, other := fun x hx => ?_, gen := ⟨by show (1 : Int) ≤ 1; omega, by show (1 : Int) ≤ _; omega⟩, homl := by show (cutL b).length = _; rw [cutL_length]; exact hpc, homb := fun x hx => ?_, hom := fun i x hx => ?_, ring := ⟨by rw [hn0]; show 2 + g.C ≤ _; omega, by show 2 ≤ g.C; have := hN.c1; omega, hN.c2, by show 0 < g.C; have := hN.c1; omega, ⟨by omega, by omega⟩, fun t ht => (by cases ht), Nat.zero_le _, fun k hk => (by simp [layB] at hk)⟩, q := ⟨by omega, by simp⟩, junk := fun j _ hj => ?_, at0 := (Nat.zero_mod _).symm, seq := rfl, used := rfl, len := hl, bytes := hb, rows := rfl }
          · have hx : supOf T.n0 T.n1 (T.rd 1) = some x := hx
            rw [h1z] at hx
            unfold supOf at hx
            rw [if_neg (fun h => by have := h.1; rw [decOk_zeros] at this; cases this)] at hx
            cases hx
          · obtain ⟨i, hi0⟩ := List.mem_iff_getElem?.1 hx
            obtain ⟨hi, rfl⟩ := hci i x hi0
            exact ⟨piece_length _ _, piece_bytes hb i⟩
          · obtain ⟨hi, rfl⟩ := hci i x hx
            exact hh i hi
          · left
            have hp := plc_in (show 0 < g.C by have := hN.c1; omega) 0 j
            show decOk (T.rd (plc 2 g.C 0 j)) = false
            rw [hz _ hp.1 hp.2]
            exact decOk_zeros
/-- **Format**, on a rig that is up and on which nothing is loose. -/
theorem RS.fmt {S : RS} {g : Geo} {b : List Int} (hu : S.Up) (hd : S.Dry) (hbb : S.BB) (hg : g.good) (h0 : g.oF ≤ S.n0) (h1 : g.oW ≤ S.n1) (hl : b.length = g.bts.toNat) (hb : IsBytes b) :
    ∃ T, S.bat (fmtB g b) = (T, 0) ∧ T.Up ∧ T.n0 = S.n0 ∧ T.n1 = S.n1 ∧ Inv T (MS.new g b) 0 0 1 [] := by
  have hok := fmt_ok (S := S) hg h0 hb
  obtain ⟨T, e, hT, t0, t1, tb, hc⟩ := RS.bat_spec (fmtB g b) S hd hbb hok
  obtain ⟨u1, u2⟩ := RS.bat_up (fmtB g b) S hu fun l hl x hx => (hok l hl).lt x hx
  rw [hT] at u1 u2
  have u1 : e = 0 := u1
  subst u1
  refine ⟨T, hT, u2, t0, t1, ?_⟩
  rcases hc with ⟨_, hA⟩ | ⟨he, _⟩
  · exact fmt_inv hg h0 h1 hl hb hA
  · cases he
/-- **Commit**, on a rig that is up. -/
theorem Inv.cmt_up {S : RS} {M : MS} {n p0 : Nat} {q0 : Int} {ts : List (List Img)} {b : List Int} (h : Inv S M n p0 q0 ts) (hu : S.Up) (hn : n ≤ 1000) (hl : b.length = M.b.length) (hb : IsBytes b) :
    ∃ T, S.cmt M b = (T, 0) ∧ T.Up ∧ T.n0 = S.n0 ∧ T.n1 = S.n1 ∧ ∃ p q us, Inv T (M.next b) (n + 2) p q us := by
  obtain ⟨T, e, hT, t0, t1, tb, hc⟩ := h.cmt hn hl hb
  obtain ⟨u1, u2⟩ := RS.bat_up (M.bats b) S hu fun l hl' x hx => (h.bats_ok (by omega) hl hb l hl').lt x hx
  unfold RS.cmt at hT
  rw [hT] at u1 u2
  have u1 : e = 0 := u1
  subst u1
  refine ⟨T, hT, u2, t0, t1, ?_⟩
  rcases hc with ⟨_, hI⟩ | ⟨he, _⟩
  · exact hI
  · cases he
end Go.Proofs.YtbdfllamhcodjaaGreat

/- What batches do to a rig besides: the other disk, the count, the versions. -/
namespace Go.Proofs.YtbdfllamhcodjaaGreat
open Go.RowKit
set_option linter.unusedVariables false

/-- A rig that a Meta may be asked on. -/
structure RS.Rdy (S : RS) : Prop where
  n0 : S.n0 ≤ 4096
  n1 : S.n1 ≤ 4096
  d0 : 0 ≤ S.done
  d1 : S.done ≤ 500000
  fu : S.fuse ≤ 1000000
  few : S.Few 100
  bb : S.BB
/-- A Meta that may be asked. -/
structure MS.Ok (M : MS) (S : RS) : Prop where
  good : M.g.good
  n0 : M.g.oF ≤ S.n0
  n1 : M.g.oW ≤ S.n1
  sup1 : M.sup ≤ 1
  gen : 0 ≤ M.gen ∧ M.gen ≤ 1000000
  seq : 0 ≤ M.seq ∧ M.seq ≤ 1000000
  at0 : M.at0 < M.g.C
  used : M.used ≤ M.g.C
  homl : M.home.length = M.g.P
  homb : ∀ x ∈ M.home, x.length = 48 ∧ IsBytes x
  len : M.b.length = M.g.bts.toNat
  bytes : IsBytes M.b
def totalW (ls : List Wrs) : Nat := (ls.map fun l => l.length + 1).sum
theorem RS.write_wyM (S : RS) (dev i : Int) (b : List Value) : S.done ≤ (S.write dev i b).done ∧ (S.write dev i b).done ≤ S.done + 1 ∧ ((S.write dev i b).fuse ≤ S.fuse ∨ (S.write dev i b).fuse ≤ 0) := by
  have ha : S.done ≤ S.after.done ∧ S.after.done ≤ S.done + 1 ∧ (S.after.fuse ≤ S.fuse ∨ S.after.fuse ≤ 0) := by
    unfold RS.after
    split
    · refine ⟨by show S.done ≤ S.done + 1; omega, by show S.done + 1 ≤ _; omega, .inl ?_⟩
      show (if 0 < S.fuse then S.fuse - 1 else S.fuse) ≤ S.fuse
      split <;> omega
    · exact ⟨Int.le_refl _, by show S.done ≤ _; omega, .inl (Int.le_refl _)⟩
  unfold RS.write
  split
  · split
    · obtain ⟨p1, p2, p3, p4, p5⟩ := S.after.put_rest dev i.toNat b
      rw [p1, p3]
      exact ha
    · exact ha
  · exact ⟨Int.le_refl _, by omega, .inl (Int.le_refl _)⟩
theorem RS.flush_wyM (S : RS) (dev : Int) : S.done ≤ (S.flush dev).done ∧ (S.flush dev).done ≤ S.done + 1 ∧ ((S.flush dev).fuse ≤ S.fuse ∨ (S.flush dev).fuse ≤ 0) := by
  have ha : S.done ≤ S.after.done ∧ S.after.done ≤ S.done + 1 ∧ (S.after.fuse ≤ S.fuse ∨ S.after.fuse ≤ 0) := by
    unfold RS.after
    split
    · refine ⟨by show S.done ≤ S.done + 1; omega, by show S.done + 1 ≤ _; omega, .inl ?_⟩
      show (if 0 < S.fuse then S.fuse - 1 else S.fuse) ≤ S.fuse
      split <;> omega
    · exact ⟨Int.le_refl _, by show S.done ≤ _; omega, .inl (Int.le_refl _)⟩
  unfold RS.flush
  split
  · split
    · obtain ⟨p1, p2, p3, p4, p5⟩ := S.after.fl_rest dev
      rw [p1, p3]
      exact ha
    · exact ha
  · exact ⟨Int.le_refl _, by omega, .inl (Int.le_refl _)⟩
theorem RS.wrs_wyM : ∀ (l : Wrs) (S : RS), S.done ≤ (S.wrs l).1.done ∧ (S.wrs l).1.done ≤ S.done + l.length ∧ ((S.wrs l).1.fuse ≤ S.fuse ∨ (S.wrs l).1.fuse ≤ 0)
  | [], S => ⟨Int.le_refl _, by show S.done ≤ _; simp, .inl (Int.le_refl _)⟩
  | (i, b) :: l, S => by
    obtain ⟨w1, w2, w3⟩ := S.write_wyM 0 (i : Int) b
    unfold RS.wrs
    split
    · obtain ⟨v1, v2, v3⟩ := RS.wrs_wyM l (S.write 0 (i : Int) b)
      rw [List.length_cons]
      exact ⟨by omega, by omega, by omega⟩
    · rw [List.length_cons]
      exact ⟨w1, by show (S.write 0 (i : Int) b).done ≤ _; omega, w3⟩
theorem RS.wrs_fewM : ∀ (l : Wrs) {S : RS} {m : Nat}, S.Few m → m + l.length ≤ 254 → (S.wrs l).1.Few (m + l.length)
  | [], S, m, h, _ => h
  | (i, b) :: l, S, m, h, hm => by
    rw [List.length_cons] at hm ⊢
    have h1 := RS.few_write h (by omega) 0 (i : Int) b
    unfold RS.wrs
    split
    · have := RS.wrs_fewM l h1 (by omega)
      exact this.mono (by omega)
    · exact h1.mono (by omega)
/-- **Batches**: the count; the fuse. -/
theorem RS.bat_way : ∀ (ls : List Wrs) (S : RS), S.done ≤ (S.bat ls).1.done ∧ (S.bat ls).1.done ≤ S.done + totalW ls ∧ ((S.bat ls).1.fuse ≤ S.fuse ∨ (S.bat ls).1.fuse ≤ 0)
  | [], S => ⟨Int.le_refl _, by show S.done ≤ _; simp [totalW], .inl (Int.le_refl _)⟩
  | l :: ls, S => by
    obtain ⟨w1, w2, w3⟩ := RS.wrs_wyM l S
    obtain ⟨f1, f2, f3⟩ := (S.wrs l).1.flush_wyM 0
    have e : totalW (l :: ls) = l.length + 1 + totalW ls := rfl
    rw [RS.bat_cons, e]
    split
    · exact ⟨w1, by show (S.wrs l).1.done ≤ _; omega, w3⟩
    · split
      · exact ⟨by show S.done ≤ ((S.wrs l).1.flush 0).done; omega, by show ((S.wrs l).1.flush 0).done ≤ _; omega, by show ((S.wrs l).1.flush 0).fuse ≤ _ ∨ ((S.wrs l).1.flush 0).fuse ≤ 0; omega⟩
      · obtain ⟨v1, v2, v3⟩ := RS.bat_way ls ((S.wrs l).1.flush 0)
        exact ⟨by omega, by omega, by omega⟩
theorem RS.bat_few : ∀ (ls : List Wrs) {S : RS} {m : Nat}, S.Few m → m + totalW ls ≤ 254 → (S.bat ls).1.Few (m + totalW ls)
  | [], S, m, h, _ => h
  | l :: ls, S, m, h, hm => by
    have e : totalW (l :: ls) = l.length + 1 + totalW ls := rfl
    rw [e] at hm
    have h1 := RS.wrs_fewM l h (by omega)
    have h2 := RS.few_flush h1 0
    rw [RS.bat_cons, e]
    split
    · exact h1.mono (by omega)
    · split
      · exact h2.mono (by omega)
      · exact (RS.bat_few ls h2 (by omega)).mono (by omega)
theorem RS.wrs_D1 (l : Wrs) (S : RS) (h : ∀ x ∈ l, x.1 < S.n0) : (S.wrs l).1.D1 = S.D1 ∧ (S.wrs l).1.n0 = S.n0 ∧ (S.wrs l).1.n1 = S.n1 := by
  have := (RS.wrs_spec l S h).1
  exact ⟨this.D1, this.n0, this.n1⟩
/-- .. the other disk. -/
theorem RS.bat_D1 : ∀ (ls : List Wrs) (S : RS), (∀ l ∈ ls, ∀ x ∈ l, x.1 < S.n0) → (S.bat ls).1.D1 = S.D1 ∧ (S.bat ls).1.n0 = S.n0 ∧ (S.bat ls).1.n1 = S.n1
  | [], S, _ => ⟨rfl, rfl, rfl⟩
  | l :: ls, S, h => by
    obtain ⟨w1, w2, w3⟩ := RS.wrs_D1 l S (h l List.mem_cons_self)
    have s2 := ((S.wrs l).1.flush0).1
    rw [RS.bat_cons]
    split
    · exact ⟨w1, w2, w3⟩
    · split
      · exact ⟨s2.D1.trans w1, s2.n0.trans w2, s2.n1.trans w3⟩
      · obtain ⟨v1, v2, v3⟩ := RS.bat_D1 ls ((S.wrs l).1.flush 0) (fun k hk x hx => by rw [s2.n0, w2]; exact h k (List.mem_cons_of_mem _ hk) x hx)
        exact ⟨v1.trans (s2.D1.trans w1), v2.trans (s2.n0.trans w2), v3.trans (s2.n1.trans w3)⟩
/-- A commit's batches are few and short. -/
theorem MS.bats_total {S : RS} {M : MS} {n p0 : Nat} {q0 : Int} {ts : List (List Img)} {b : List Int} (h : Inv S M n p0 q0 ts) (hl : b.length = M.b.length) : totalW (M.bats b) ≤ 40 := by
  have hN := Geo.nats h.good
  have hp : nPcs b = M.g.P := by unfold nPcs; rw [hl, h.len, hN.bp]
  have hle : (M.dif b).length ≤ M.g.P := by
    have := difL_length (cutL M.b) (cutL b)
    rwa [cutL_length b, hp] at this
  have hh : M.homW.length ≤ M.g.P := by
    unfold MS.homW
    rw [List.length_map]
    exact Nat.le_trans (List.length_filter_le _ _) (by simp)
  have hp2 := hN.p2
  have ha : totalW (M.appW b) = (M.dif b).length + 3 := by
    unfold MS.appW totalW
    simp [txnW_length]
  unfold MS.bats
  split
  · simp [totalW]
  · split
    · have e : totalW ([M.homW, M.supW] ++ M.appW b) = M.homW.length + 1 + (2 + totalW (M.appW b)) := rfl
      rw [e, ha]
      omega
    · have e : totalW ([] ++ M.appW b) = totalW (M.appW b) := rfl
      rw [e, ha]
      omega
theorem Inv.ok {S : RS} {M : MS} {n p0 : Nat} {q0 : Int} {ts : List (List Img)} (h : Inv S M n p0 q0 ts) (hn : n ≤ 1000) : M.Ok S := by
  have hg := h.gen
  have hq := h.q
  exact ⟨h.good, h.n0, h.n1, h.sup1, ⟨by omega, by omega⟩, by rw [h.seq]; exact ⟨by omega, by omega⟩, by rw [h.at0]; exact Nat.mod_lt _ h.C0, by rw [h.used]; exact h.ring.fits, h.homl, h.homb, h.len, h.bytes⟩
/-- A rig whose fast disk is dry has few versions, if the other one has. -/
theorem few_dry {S T : RS} {m : Nat} (hd : T.Dry) (h : S.Few m) (h1 : T.D1 = S.D1) (h2 : T.n1 = S.n1) : T.Few m := ⟨fun i hi => by rw [hd i hi]; exact Nat.zero_le _, fun i hi => by rw [h1]; exact h.2 i (by rw [← h2]; exact hi)⟩
end Go.Proofs.YtbdfllamhcodjaaGreat

/- A transaction written step by step, on a rig without a fuse. -/
namespace Go.Proofs.YtbdfllamhcodjaaGreat
open Go.RowKit
set_option linter.unusedVariables false

theorem RS.wrs_few {l : List (Nat × List Value)} {S : RS} {m : Nat} (h : S.Few m) (hm : m ≤ 254) (hin : ∀ x ∈ l, x.1 < S.n0) (hnd : (l.map (·.1)).Nodup) : (S.wrs l).1.Few (m + 1) := by
  obtain ⟨hs, k, hk, hD, _⟩ := S.wrs_spec l hin
  refine ⟨fun i hi => ?_, fun i hi => ?_⟩
  · rw [hs.n0] at hi
    rw [hD]
    have h0 := h.1 i hi
    by_cases hmem : i ∈ (l.take k).map (·.1)
    · obtain ⟨⟨j, b⟩, hx, e⟩ := List.mem_map.1 hmem
      subst e
      rw [adds_mem (l.take k) S.D0 (List.Nodup.sublist (List.Sublist.map _ (List.take_sublist k l)) hnd) hx]
      show ((S.D0 j).add b).vs.length ≤ _
      rw [add_more _ _ (by have : (S.D0 j).vs.length ≤ m := h0; omega)]
      have : (S.D0 j).vs.length ≤ m := h0
      omega
    · rw [adds_not _ _ hmem]
      omega
  · rw [hs.n1] at hi
    rw [hs.D1]
    exact Nat.le_succ_of_le (h.2 i hi)

section
variable {S : RS} {F C A : Nat} {seq : Int} {t : List Img} {m : Nat}
end
end Go.Proofs.YtbdfllamhcodjaaGreat

/- Blocks written one behind the other, then a flush, on a rig with a fuse or without. -/
namespace Go.Proofs.YtbdfllamhcodjaaGreat
open Go.RowKit
set_option linter.unusedVariables false

/-- What is written from a place on, and where. -/
def wsAt (F C P : Nat) (L : List (List Int)) : List (Nat × List Value) := L.zipIdx.map fun x => (F + (P + x.2) % C, u8s x.1)
theorem wsAt_length (F C P : Nat) (L : List (List Int)) : (wsAt F C P L).length = L.length := by simp [wsAt]
theorem wsAt_get? (F C P : Nat) (L : List (List Int)) (k : Nat) : (wsAt F C P L)[k]? = L[k]?.map fun b => (F + (P + k) % C, u8s b) := by
  unfold wsAt
  rw [List.getElem?_map, List.getElem?_zipIdx]
  cases L[k]? with
  | none => rfl
  | some b => simp
theorem txnW_take (F C A n : Nat) (seq : Int) (t : List Img) : (txnW F C A seq t).take n = wsAt F C A ((txnB seq t).take n) := by
  apply List.ext_getElem?
  intro k
  rw [wsAt_get?]
  by_cases h : k < n
  · rw [List.getElem?_take_of_lt h, List.getElem?_take_of_lt h]
    exact wsAt_get? F C A (txnB seq t) k
  · rw [List.getElem?_eq_none (by rw [List.length_take]; omega), List.getElem?_eq_none (by rw [List.length_take]; omega)]
    rfl
theorem txnW_drop (F C A n : Nat) (seq : Int) (t : List Img) : (txnW F C A seq t).drop n = wsAt F C (A + n) ((txnB seq t).drop n) := by
  apply List.ext_getElem?
  intro k
  rw [wsAt_get?, List.getElem?_drop, List.getElem?_drop, show A + n + k = A + (n + k) by omega]
  exact wsAt_get? F C A (txnB seq t) (n + k)
theorem wsAt_nodup {F C P : Nat} {L : List (List Int)} (h : L.length ≤ C) : ((wsAt F C P L).map (·.1)).Nodup := by
  have e : (wsAt F C P L).map (·.1) = (List.range L.length).map fun k => F + (P + k) % C := by
    apply List.ext_getElem?
    intro k
    rw [List.getElem?_map, List.getElem?_map, wsAt_get?]
    by_cases hk : k < L.length
    · rw [List.getElem?_range hk, List.getElem?_eq_getElem hk]
      rfl
    · rw [List.getElem?_eq_none (by omega), List.getElem?_eq_none (by simp; omega)]
      rfl
  rw [e]
  unfold List.Nodup
  rw [List.pairwise_map]
  refine List.Pairwise.imp_of_mem (fun {j k} hj hk hne e => ?_) List.nodup_range
  have hj := List.mem_range.1 hj
  have hk := List.mem_range.1 hk
  exact hne (mod_inj (a := P) (count := C) (by omega) (by omega) (by omega))
theorem wsAt_in {F C P n0 : Nat} {L : List (List Int)} (h0 : 0 < C) (hF : F + C ≤ n0) : ∀ x ∈ wsAt F C P L, x.1 < n0 := by
  intro x hx
  obtain ⟨k, hk⟩ := List.mem_iff_getElem?.1 hx
  rw [wsAt_get?] at hk
  cases hl : L[k]? with
  | none => rw [hl] at hk; simp at hk
  | some b =>
    rw [hl] at hk
    cases hk
    show F + (P + k) % C < n0
    have := Nat.mod_lt (P + k) h0
    omega

theorem RS.wrs_last : ∀ (l : List (Nat × List Value)) (S : RS) (i : Nat) (b : List Value), (S.wrs l).2 = true → S.wrs (l ++ [(i, b)]) = ((S.wrs l).1.write 0 (i : Int) b, decide ((S.wrs l).1.writeE 0 (i : Int) = 0))
  | [], S, i, b, _ => by
    show S.wrs [(i, b)] = (S.write 0 (i : Int) b, decide (S.writeE 0 (i : Int) = 0))
    unfold RS.wrs
    split
    · next h => rw [decide_eq_true h]; rfl
    · next h => rw [decide_eq_false h]
  | (j, c) :: l, S, i, b, h => by
    unfold RS.wrs at h
    show S.wrs ((j, c) :: (l ++ [(i, b)])) = _
    unfold RS.wrs
    split at h
    · rename_i h0
      rw [if_pos h0, if_pos h0]
      exact RS.wrs_last l _ i b h
    · simp at h
theorem RS.wrs_stop : ∀ (l l' : List (Nat × List Value)) (S : RS), (S.wrs l).2 = false → S.wrs (l ++ l') = S.wrs l
  | [], l', S, h => by simp [RS.wrs] at h
  | (j, c) :: l, l', S, h => by
    unfold RS.wrs at h
    show S.wrs ((j, c) :: (l ++ l')) = _
    unfold RS.wrs
    split at h
    · rename_i h0
      rw [if_pos h0, if_pos h0]
      exact RS.wrs_stop l l' _ h
    · rename_i h0
      rw [if_neg h0, if_neg h0]
theorem RS.after_way (S : RS) : S.after.fuse ≤ S.fuse ∧ S.done ≤ S.after.done ∧ S.after.done ≤ S.done + 1 := by
  unfold RS.after
  split
  · refine ⟨?_, ?_, ?_⟩
    · show (if 0 < S.fuse then S.fuse - 1 else S.fuse) ≤ S.fuse
      split <;> omega
    · show S.done ≤ S.done + 1; omega
    · exact Int.le_refl _
  · exact ⟨Int.le_refl _, Int.le_refl _, by show S.done ≤ S.done + 1; omega⟩
theorem RS.write_way (S : RS) (dev i : Int) (b : List Value) : (S.write dev i b).fuse ≤ S.fuse ∧ S.done ≤ (S.write dev i b).done ∧ (S.write dev i b).done ≤ S.done + 1 := by
  have h := S.after_way
  unfold RS.write
  split
  · split
    · have := S.after.put_rest dev i.toNat b
      rw [this.1, this.2.2.1]
      exact h
    · exact h
  · exact ⟨Int.le_refl _, Int.le_refl _, by omega⟩
theorem RS.flush_way (S : RS) (dev : Int) : (S.flush dev).fuse ≤ S.fuse ∧ S.done ≤ (S.flush dev).done ∧ (S.flush dev).done ≤ S.done + 1 := by
  have h := S.after_way
  unfold RS.flush
  split
  · split
    · have := S.after.fl_rest dev
      rw [this.1, this.2.2.1]
      exact h
    · exact h
  · exact ⟨Int.le_refl _, Int.le_refl _, by omega⟩
theorem RS.wrs_way : ∀ (l : List (Nat × List Value)) (S : RS), (S.wrs l).1.fuse ≤ S.fuse ∧ S.done ≤ (S.wrs l).1.done ∧ (S.wrs l).1.done ≤ S.done + l.length
  | [], S => ⟨Int.le_refl _, Int.le_refl _, by show S.done ≤ S.done + ((0 : Nat) : Int); omega⟩
  | (i, b) :: l, S => by
    have h1 := S.write_way 0 (i : Int) b
    have h2 := RS.wrs_way l (S.write 0 (i : Int) b)
    unfold RS.wrs
    simp only [List.length_cons]
    split
    · refine ⟨?_, ?_, ?_⟩ <;> omega
    · refine ⟨?_, ?_, ?_⟩ <;> simp only <;> omega
theorem RS.flushE0 (S : RS) : S.flushE 0 = 0 ∨ S.flushE 0 = 14 := by
  rcases (S.flush0).2 with ⟨_, e, _⟩ | ⟨_, e, _⟩
  · exact .inl e
  · exact .inr e
/-- Writes, then a flush. -/
def RS.st (S : RS) (l : List (Nat × List Value)) : RS × Int := if (S.wrs l).2 = false then ((S.wrs l).1, 14) else ((S.wrs l).1.flush 0, (S.wrs l).1.flushE 0)
theorem RS.app_st (S : RS) (F C A : Nat) (seq : Int) (t : List Img) : S.app F C A seq t =
    if (S.st (wsAt F C A ((txnB seq t).take t.length))).2 = 0 then (S.st (wsAt F C A ((txnB seq t).take t.length))).1.st (wsAt F C (A + t.length) ((txnB seq t).drop t.length)) else S.st (wsAt F C A ((txnB seq t).take t.length)) := by
  rw [← txnW_take, ← txnW_drop]
  unfold RS.app
  by_cases h1 : (S.wrs ((txnW F C A seq t).take t.length)).2 = false
  · have e1 : S.st ((txnW F C A seq t).take t.length) = ((S.wrs ((txnW F C A seq t).take t.length)).1, 14) := by unfold RS.st; rw [if_pos h1]
    rw [if_pos h1, e1, if_neg (by omega)]
  · have e1 : S.st ((txnW F C A seq t).take t.length) = ((S.wrs ((txnW F C A seq t).take t.length)).1.flush 0, (S.wrs ((txnW F C A seq t).take t.length)).1.flushE 0) := by unfold RS.st; rw [if_neg h1]
    rw [if_neg h1, e1]
    by_cases h2 : (S.wrs ((txnW F C A seq t).take t.length)).1.flushE 0 = 0
    · rw [if_neg (by omega), if_pos h2]
      simp only
      generalize (S.wrs ((txnW F C A seq t).take t.length)).1.flush 0 = T
      unfold RS.st
      by_cases h3 : (T.wrs ((txnW F C A seq t).drop t.length)).2 = false
      · rw [if_pos h3, if_pos h3]
      · rw [if_neg h3, if_neg h3]
        rcases RS.flushE0 (T.wrs ((txnW F C A seq t).drop t.length)).1 with e | e
        · rw [if_neg (by omega), e]
        · rw [if_pos (by omega), e]
    · have e := (RS.flushE0 (S.wrs ((txnW F C A seq t).take t.length)).1).resolve_left h2
      rw [if_pos h2, if_neg h2, e]
theorem RS.st_spec {S : RS} {l : List (Nat × List Value)} (hin : ∀ x ∈ l, x.1 < S.n0) (hnd : (l.map (·.1)).Nodup) {m : Nat} (hf : S.Few m) (hm : m ≤ 254) :
    (S.st l).1.n0 = S.n0 ∧ (S.st l).1.fuse ≤ S.fuse ∧ S.done ≤ (S.st l).1.done ∧ (S.st l).1.done ≤ S.done + l.length + 1 ∧ (S.st l).1.Few (m + 1) ∧ ((S.st l).2 = 0 ∨ (S.st l).2 = 14) := by
  obtain ⟨h1, _⟩ := S.wrs_spec l hin
  obtain ⟨w1, w2, w3⟩ := RS.wrs_way l S
  have hfw := RS.wrs_few hf hm hin hnd
  unfold RS.st
  split
  · exact ⟨h1.n0, w1, w2, by show (S.wrs l).1.done ≤ _; omega, hfw, .inr rfl⟩
  · obtain ⟨v1, v2, v3⟩ := (S.wrs l).1.flush_way 0
    exact ⟨((S.wrs l).1.flush0).1.n0.trans h1.n0, by simp only; omega, by simp only; omega, by simp only; omega, RS.few_flush hfw 0, RS.flushE0 _⟩
end Go.Proofs.YtbdfllamhcodjaaGreat

/- Batches, pages, images: what the developers' meta makes of lists. No program. -/
namespace Go.Proofs.YtbdfllamhcodjaaGreat
open Go.RowKit
set_option linter.unusedVariables false

/-- One batch is its writes, then a flush. -/
theorem RS.bat_one (S : RS) (l : Wrs) : S.bat [l] = S.st l := by
  rw [RS.bat_cons]
  unfold RS.st
  by_cases h : (S.wrs l).2 = false
  · rw [if_pos h, if_pos h]
  · rw [if_neg h, if_neg h]
    rcases RS.flushE0 (S.wrs l).1 with e | e
    · rw [if_neg (by omega), e]; rfl
    · rw [if_pos (by omega), e]
theorem RS.bat_st (S : RS) (l : Wrs) (ls : List Wrs) : S.bat (l :: ls) = if (S.st l).2 = 0 then (S.st l).1.bat ls else S.st l := by
  have := RS.bat_append [l] ls S
  rw [RS.bat_one] at this
  exact this
/-- The batches of a checkpoint, then those of a transaction. -/
theorem RS.bat_two (S : RS) (l k : Wrs) : S.bat [l, k] = if (S.st l).2 = 0 then (S.st l).1.st k else S.st l := by rw [RS.bat_st, RS.bat_one]
/-- Of so many pages those that are picked. -/
def selP (m : Nat) (p : Nat → Bool) : List (Fin m) := (List.finRange m).filter fun i => p i.1
theorem finRange_val (m : Nat) : (List.finRange m).map Fin.val = List.range m := by
  apply List.ext_getElem
  · simp
  · intro i h1 h2; simp
theorem selP_val (m : Nat) (p : Nat → Bool) : (selP m p).map Fin.val = (List.range m).filter p := by
  rw [← finRange_val, List.filter_map]
  rfl
theorem selP_map {β : Type} (m : Nat) (p : Nat → Bool) (f : Nat → β) : ((selP m p).map fun x => f x.1) = ((List.range m).filter p).map f := by
  rw [← selP_val, List.map_map]
  rfl
theorem selP_length_le (m : Nat) (p : Nat → Bool) : (selP m p).length ≤ m := by
  have := List.length_filter_le (fun i : Fin m => p i.1) (List.finRange m)
  rw [List.length_finRange] at this
  exact this
/-- Pages as a memory holds them: number k of some. -/
def pgAt (now : List (List Int)) (k : Nat) : List Int := now[k]?.getD []
/-- A write's cells: the sector, the block. -/
def wrC (x : Nat × List Value) : List Value := .int .i64 (x.1 : Int) :: x.2
def wrR (l : Wrs) : List (List Value) := l.map wrC
/-- Home pages that are written. -/
def homWs (H : Nat) (now : List (List Int)) {m : Nat} (xs : List (Fin m)) : Wrs := xs.map fun x => (H + x.1, u8s (homSct x.1 (pgAt now x.1)).bytes)
/-- Pages that differ, of so many. -/
def difP (was now : List (List Int)) (k : Nat) : Bool := decide (now[k]? ≠ was[k]?)
theorem dif_sel (was now : List (List Int)) : difL was now = (selP now.length (difP was now)).map fun x => (⟨(x.1 : Int), pgAt now x.1⟩ : Img) := by
  rw [selP_map now.length (difP was now) fun k => (⟨(k : Int), pgAt now k⟩ : Img)]
  rfl
theorem cutL_len (b : List Int) : (cutL b).length = nPcs b := by simp [cutL]
theorem pgAt_cut (b : List Int) {k : Nat} (h : k < nPcs b) : pgAt (cutL b) k = piece b k := by unfold pgAt; rw [cutL_get b h]; rfl
theorem homW_sel (M : MS) (h : nPcs M.b = M.g.P) : M.homW = homWs M.g.H (cutL M.b) (selP (cutL M.b).length (difP M.home (cutL M.b))) := by
  unfold MS.homW homWs
  rw [selP_map (cutL M.b).length (difP M.home (cutL M.b)) fun k => (M.g.H + k, u8s (homSct k (pgAt (cutL M.b) k)).bytes), cutL_len, h]
  refine List.map_congr_left fun k hk => ?_
  have hk' := List.mem_range.1 (List.mem_filter.1 hk).1
  rw [pgAt_cut M.b (by omega)]
/-- The writes of a Format's second batch. -/
theorem fmt_sel (g : Geo) (b : List Int) (h : nPcs b = g.P) : ((List.range g.P).map fun i => (g.H + i, u8s (homSct i (piece b i)).bytes)) = homWs g.H (cutL b) (selP (cutL b).length fun _ => true) := by
  unfold homWs
  rw [selP_map (cutL b).length (fun _ => true) fun k => (g.H + k, u8s (homSct k (pgAt (cutL b) k)).bytes), cutL_len, h]
  rw [show (List.range g.P).filter (fun _ => true) = List.range g.P from List.filter_eq_self.2 fun _ _ => rfl]
  refine List.map_congr_left fun k hk => ?_
  rw [pgAt_cut b (by have := List.mem_range.1 hk; omega)]
/-- The pages' rows. -/
theorem rows_cut (b : List Int) : rows b (nPcs b) = (cutL b).map u8s := by
  unfold rows cutL
  rw [List.map_map]
  rfl
theorem cutL_ok {b : List Int} (hb : IsBytes b) : ∀ x ∈ cutL b, x.length = 48 ∧ IsBytes x := by
  intro x hx
  unfold cutL at hx
  obtain ⟨k, _, rfl⟩ := List.mem_map.1 hx
  exact ⟨piece_length b k, piece_bytes hb k⟩
theorem zerosW (F n : Nat) : ((List.range (n + 1)).map fun i => (F + i, fillB 0)) = ((List.range n).map fun i => (F + i, fillB 0)) ++ [(F + n, fillB 0)] := by
  rw [List.range_succ, List.map_append]
  rfl
/-- Transactions laid over pages, one image behind the other. -/
theorem layTs_flat (now : List (List Int)) (ts : List (List Img)) : layTs now ts = ts.flatten.foldl layI now := by
  unfold layTs
  rw [List.foldl_flatten]
  rfl
theorem usedBy_snoc (ts : List (List Img)) (t : List Img) : usedBy (ts ++ [t]) = usedBy ts + (t.length + 1) := by
  unfold usedBy
  rw [List.map_append, List.sum_append]
  simp
end Go.Proofs.YtbdfllamhcodjaaGreat

/- The developers' writes in memory: a sector and a block, in a row. -/
namespace Go.Proofs.YtbdfllamhcodjaaGreat
open Go.RowKit
set_option linter.unusedVariables false

def zwr : List Value := .int .i64 0 :: fillB 0
theorem zwr_size : zwr.toArray.size = 65 := by simp [zwr, fillB]
theorem wrC_length {x : Nat × List Value} (h : x.2.length = 64) : (wrC x).length = 65 := by simp [wrC, h]
theorem wrC_one {x : Nat × List Value} (h : IsBlk x.2) : ∀ v ∈ wrC x, v.oneCell' = true := by
  intro v hv
  unfold wrC at hv
  rcases List.mem_cons.1 hv with rfl | hv
  · rfl
  · exact h.one v hv
section
set_option maxRecDepth 100000
set_option maxRecDepth 100000 in
theorem size_wr : (Tryz.prog.info? 114).map (·.size) = some 65 := by kernel_rfl
set_option maxRecDepth 100000 in
theorem info_wr : (Tryz.prog.info? 114).map (fun i => (i.zero, i.size, i.bytes)) = some (some (.agg zwr.toArray), 65, 72) := by kernel_rfl
set_option maxRecDepth 100000 in
theorem zero_wr (w : World) : (zeroValue 114).run Tryz.prog w = .ok (.agg zwr.toArray) w := by kernel_rfl
set_option maxRecDepth 100000 in
theorem load_wr {w : World} {b o : Nat} {c : List Value} (hc : w.rangeAt b o c) (h : c.length = 65) : (loadVar 114 ⟨b, o, none⟩).run Tryz.prog w = .ok (.agg c.toArray) w :=
  run_loadVar_mid w b o _ c _ hc Tryz.underlying114 rfl (by rw [h]; exact size_wr)
set_option maxRecDepth 100000 in
theorem store_new_wr {w : World} {c : Array Value} {c' : List Value} (h : c.size = 65) (h' : c'.length = 65) (h1 : ∀ v ∈ c', v.oneCell' = true) : (storeVar 114 ⟨w.heap.size, 0, none⟩ (.agg c'.toArray)).run Tryz.prog (w.alloc (.cells c 114)) = .ok () (w.alloc (.cells c'.toArray 114)) :=
  run_storeVar_new w _ c c'.toArray (by simpa [h'] using size_wr) (by simpa [h'] using h) (all_oneCell_toArray h1)
def placesW : Nat → Option (Nat × Nat) := fun i => (#[(0, 1), (1, 64)] : Array (Nat × Nat))[i]?
theorem fill_wr (i : Int) (c : List Value) (hc : c.length = 64) : Instr.fill placesW zwr.toArray [(0, .int .i64 i), (1, .agg c.toArray)] = some (Value.int .i64 i :: c).toArray := by
  have h3 : Instr.fill placesW zwr.toArray [(0, .int .i64 i), (1, .agg c.toArray)] = Instr.fill placesW (zwr.set 0 (.int .i64 i)).toArray [(1, .agg c.toArray)] := rfl
  have hz : (zwr.set 0 (.int .i64 i)).toArray.size = 65 := by simp [zwr, fillB]
  rw [h3]
  have p3 : placesW 1 = some (1, 64) := rfl
  simp only [Instr.fill, p3, Value.cells]
  refine (if_neg ?_).trans ?_
  · intro h
    rcases Bool.or_eq_true_iff.1 h with h | h
    · exact (of_decide_eq_true h) (by simpa using hc)
    · have h' : 1 + c.toArray.size > (zwr.set 0 (.int .i64 i)).toArray.size := of_decide_eq_true h
      rw [hz, List.size_toArray, hc] at h'
      omega
  congr 1
  rw [← Array.foldl_toList, Array.toList_zipIdx, laid_from]
  apply Array.ext_getElem?
  intro j
  rw [laid_get c 1 _ j (by rw [hz, hc]; omega)]
  match j with
  | 0 => rfl
  | j + 1 =>
    by_cases hj : j < 64
    · rw [if_pos (by omega)]; simp
    · rw [if_neg (by omega), Array.getElem?_eq_none (by omega)]; simp; omega
set_option maxRecDepth 100000 in
theorem build_wr (i : Int) (c : List Value) (hc : c.length = 64) (w : World) :
    (Instr.build 114 #[(0, .int .i64 i), (1, .agg c.toArray)]).run Tryz.prog w = .ok (.agg (Value.int .i64 i :: c).toArray) w :=
  run_build w _ _ _ (fill_wr i c hc)
set_option maxRecDepth 100000 in
theorem build_wr1 (i : Int) (w : World) : (Instr.build 114 #[(0, .int .i64 i)]).run Tryz.prog w = .ok (.agg (Value.int .i64 i :: fillB 0).toArray) w := by kernel_rfl
set_option maxRecDepth 100000 in
/-- A slice of one write. -/
theorem slice_wr (w : World) (b : List Value) (h : b.length = 65) : (Instr.buildSlice 106 1 #[(0, .agg b.toArray)]).run Tryz.prog w = .ok (.slice (some ⟨w.heap.size, 0, none⟩) 1 1) (w.alloc (.cells b.toArray 114)) := by
  have e : (b.zipIdx.foldl (fun cs (x : Value × Nat) => cs.setIfInBounds (0 + x.2) x.1) ((Array.range 65).map (zwr.toArray[· % zwr.toArray.size]!))) = b.toArray := laid_all b _ (by simp [h])
  have e2 : b.toArray.zipIdx.foldl (fun cs (x : Value × Nat) => cs.setIfInBounds (0 + x.2) x.1) ((Array.range 65).map (zwr.toArray[· % zwr.toArray.size]!)) = b.toArray := by
    rw [← Array.foldl_toList, Array.toList_zipIdx]
    exact e
  obtain ⟨i0, hi, hz0, hz1, hz2⟩ := info_parts info_wr
  refine run_buildSlice (P := Tryz.prog) w 106 114 1 _ b.toArray i0 (.agg zwr.toArray) (by kernel_rfl) hi hz0 (by rw [hz1]; decide) (by rw [hz1]; decide) ?_
  rw [hz1]
  show Instr.fill _ _ [(0, Value.agg b.toArray)] = _
  simp only [Instr.fill]
  rw [if_neg (by simp [Value.cells, h])]
  congr 1
set_option maxRecDepth 100000 in
/-- A write appended to writes. -/
theorem append_wr (N : Nat) (w : World) (v : Value) (vs : List (List Value)) (b : List Value) (B : Nat) (hown : w.ownsRow N 114 65 v vs.length vs.flatten) (hb : b.length = 65) (h1 : ∀ u ∈ b, u.oneCell' = true) (hB : w.rangeAt B 0 b) (hlen : vs.length ≤ 1000000) (hN : N ≤ w.heap.size) :
    ∃ v' w', (Builtin.append_ #[106, 106] 106 #[v, .slice (some ⟨B, 0, none⟩) 1 1]).run Tryz.prog w = .ok v' w' ∧ w'.ownsRow N 114 65 v' (vs ++ [b]).length (vs ++ [b]).flatten ∧ w.grownBy w' v.ownBlock ∧ (v'.ownBlock = v.ownBlock ∨ v'.ownBlock = some w.heap.size) := by
  obtain ⟨i0, hi, hz0, hz1, hz2⟩ := info_parts info_wr
  obtain ⟨v', w', hr, h1, h2, _, h3⟩ := run_append_own_at (P := Tryz.prog) w N 106 106 114 i0 (.agg zwr.toArray) 65 72 Tryz.underlying106 hi hz0 hz1 hz2 zwr_size (by omega) v vs.length vs.flatten hown
    ⟨B, 0, none⟩ 1 1 b (by rw [hb]) (fun j u hj => by have := hB j u hj; rwa [Addr.add_mid]) h1 (by unfold maxLen; omega) (by omega) hN
  exact ⟨v', w', hr, by simpa using h1, h2, h3⟩
set_option maxRecDepth 100000 in
/-- Writes appended to writes. -/
theorem append_wrs (N : Nat) (w : World) (v u : Value) (vs us : List (List Value)) (hown : w.ownsRow N 114 65 v vs.length vs.flatten) (hu : w.ownsRow 0 114 65 u us.length us.flatten) (hok : ∀ x ∈ us, ∀ y ∈ x, y.oneCell' = true) (hlen : vs.length + us.length ≤ 1000000) (hN : N ≤ w.heap.size) :
    ∃ v' w', (Builtin.append_ #[106, 106] 106 #[v, u]).run Tryz.prog w = .ok v' w' ∧ w'.ownsRow N 114 65 v' (vs ++ us).length (vs ++ us).flatten ∧ w.grownBy w' v.ownBlock ∧ (v'.ownBlock = v.ownBlock ∨ v'.ownBlock = some w.heap.size) := by
  obtain ⟨i0, hi, hz0, hz1, hz2⟩ := info_parts info_wr
  rcases hu.2 with ⟨rfl, h0⟩ | ⟨g, cap, cur, rfl, _⟩
  · obtain rfl := List.eq_nil_of_length_eq_zero h0
    exact ⟨v, w, run_append_owned_none (P := Tryz.prog) (w := w) N 106 106 114 i0 65 Tryz.underlying106 hi v vs.length _ hown, by simpa using hown, World.grownBy.refl _ _, .inl rfl⟩
  · obtain ⟨v', w', hr, h1, h2, _, h3⟩ := run_append_own_at (P := Tryz.prog) w N 106 106 114 i0 (.agg zwr.toArray) 65 72 Tryz.underlying106 hi hz0 hz1 hz2 zwr_size (by omega) v vs.length vs.flatten hown
      ⟨g, 0, none⟩ us.length cap us.flatten hu.1 (hu.cells rfl) (fun x hx => by obtain ⟨y, hy, hxy⟩ := List.mem_flatten.1 hx; exact hok y hy x hxy) (by unfold maxLen; omega) (by omega) hN
    exact ⟨v', w', hr, by simpa using h1, h2, h3⟩
end
end Go.Proofs.YtbdfllamhcodjaaGreat

/- What the walk of a statement is told of its arguments, whatever their types: cell by cell. -/
namespace Go.Proofs.YtbdfllamhcodjaaGreat
open Go.ChangeShapes Go.WideShapes Go.ChangeAt Go.RowKit
set_option linter.unusedVariables false

set_option maxRecDepth 100000 in
theorem own : ownKnob Tryz.prog.godebug = none := by kernel_rfl
set_option maxRecDepth 100000 in
theorem laidOut : laidOutB Tryz.prog = true := by kernel_rfl

/-- These cells read as a value of this type. -/
def Cells (W : World) (t : TypeId) (cs : List Value) : Prop :=
  ∃ (H : Type) (enc : TypeId × Value → H) (fuel : Nat) (x : DataW H × List MemPlace), DataW.trod enc Tryz.prog W 0 (fun _ => true) true fuel t cs = some x
/-- An argument. -/
def Arg (W : World) (t : TypeId) (v : Value) : Prop := (∃ base, Value.okWide Tryz.prog W .any base t v) ∧ Cells W t v.cells.toList

set_option maxRecDepth 100000 in
theorem Arg.mk {H : Type} {enc : TypeId × Value → H} {W : World} {base : Nat} {t : TypeId} {v : Value} {d : DataW H} {p : List MemPlace} (h : Value.okWide Tryz.prog W .any base t v) (k : DataW.Trod enc Tryz.prog W 0 (fun _ => true) true t v d p) : Arg W t v := by
  obtain ⟨fuel, hf⟩ := k
  exact ⟨⟨base, h⟩, H, enc, fuel, _, hf⟩

section
variable {W : World} {t e : TypeId} {cs : List Value} {v : Value}

set_option maxRecDepth 100000 in
theorem Cells.int {k : IntKind} (h : Cells W t cs) (hu : Tryz.prog.underlying t = some (.int k)) : ∃ n, cs = [.int k n] ∧ (Lit.int k n).wf = true := by
  obtain ⟨H, enc, fuel, x, hx⟩ := h
  obtain ⟨a, e1, e2, wa⟩ := DataW.trod_int hu hx
  exact ⟨a, e1, wa⟩
set_option maxRecDepth 100000 in
theorem Cells.slice (h : Cells W t cs) (hu : Tryz.prog.underlying t = some (.slice e)) : ∃ a len cap, cs = [.slice a len cap] ∧
    ((a = none ∧ len = 0 ∧ cap = 0) ∨ ∃ x, a = some x ∧ len ≤ cap ∧ cap ≤ maxLen ∧ ∀ i, i < cap → ∃ es, W.cells? 0 (x.add (i * Tryz.prog.cellsOf e)) (Tryz.prog.cellsOf e) = some es ∧ Cells W e es) := by
  obtain ⟨H, enc, fuel, x, hx⟩ := h
  rcases Go.Deep.open_slice hu hx with ⟨rfl, rfl⟩ | ⟨a, len, cap, m, n, D, Pl, rfl, _, h1, h2, rfl, rfl, h3⟩
  · exact ⟨_, _, _, rfl, .inl ⟨rfl, rfl, rfl⟩⟩
  · refine ⟨_, _, _, rfl, .inr ⟨a, rfl, h1, h2, fun i hi => ?_⟩⟩
    obtain ⟨es, g1, g2⟩ := h3 i (by simpa using hi)
    exact ⟨es, g1, H, enc, n, _, g2⟩
set_option maxRecDepth 100000 in
theorem Cells.struct {fs : Array Field} (h : Cells W t cs) (hu : Tryz.prog.underlying t = some (.struct fs)) : cs.length = Tryz.prog.cellsOf t ∧
    ∀ (j : Nat) f, fs[j]? = some f → Cells W f.type ((cs.drop f.offset).take (Tryz.prog.cellsOf f.type)) := by
  obtain ⟨H, enc, fuel, x, hx⟩ := h
  obtain ⟨xs, n, _, rfl, hl, hlen, hf⟩ := DataW.trod_struct hu hx
  refine ⟨hl, fun j f hj => ?_⟩
  have h1 := hf j f hj
  have h2 : j < xs.length := by
    rw [hlen]
    exact (Array.getElem?_eq_some_iff.1 hj).1
  rw [List.getElem?_eq_getElem h2] at h1
  exact ⟨H, enc, n, _, h1⟩
set_option maxRecDepth 100000 in
theorem Cells.array {n : Nat} (h : Cells W t cs) (hu : Tryz.prog.underlying t = some (.array n e)) : cs.length = Tryz.prog.cellsOf t ∧
    ∀ i, i < n → Cells W e ((cs.drop (i * Tryz.prog.cellsOf e)).take (Tryz.prog.cellsOf e)) := by
  obtain ⟨H, enc, fuel, x, hx⟩ := h
  obtain ⟨xs, m, _, rfl, hl, hlen, hf⟩ := DataW.trod_array hu hx
  refine ⟨hl, fun j hj => ?_⟩
  have h1 := hf j hj
  rw [List.getElem?_eq_getElem (by omega)] at h1
  exact ⟨H, enc, m, _, h1⟩

set_option maxRecDepth 100000 in
theorem Arg.int {k : IntKind} (h : Arg W t v) (hu : Tryz.prog.underlying t = some (.int k)) : ∃ n, v = .int k n ∧ (Lit.int k n).wf = true := by
  obtain ⟨⟨base, ho⟩, hc⟩ := h
  obtain ⟨n, rfl⟩ := okWide_int hu ho
  obtain ⟨m, e1, wm⟩ := hc.int hu
  simp [Value.cells] at e1
  subst e1
  exact ⟨_, rfl, wm⟩
set_option maxRecDepth 100000 in
theorem Arg.slice (h : Arg W t v) (hu : Tryz.prog.underlying t = some (.slice e)) : ∃ a len cap, v = .slice a len cap ∧
    ((a = none ∧ len = 0 ∧ cap = 0) ∨ ∃ x, a = some x ∧ len ≤ cap ∧ cap ≤ maxLen ∧ ∀ i, i < cap → ∃ es, W.cells? 0 (x.add (i * Tryz.prog.cellsOf e)) (Tryz.prog.cellsOf e) = some es ∧ Cells W e es) := by
  obtain ⟨⟨base, ho⟩, hc⟩ := h
  obtain ⟨a, len, cap, rfl⟩ := okWide_slice hu ho
  obtain ⟨a', len', cap', e1, r⟩ := hc.slice hu
  simp [Value.cells] at e1
  obtain ⟨rfl, rfl, rfl⟩ := e1
  exact ⟨_, _, _, rfl, r⟩
set_option maxRecDepth 100000 in
theorem Arg.agg (h : Arg W t v) (hu : (∃ fs, Tryz.prog.underlying t = some (.struct fs)) ∨ ∃ n e, Tryz.prog.underlying t = some (.array n e)) : ∃ cs : List Value, v = .agg cs.toArray ∧ cs.length = Tryz.prog.cellsOf t ∧ Cells W t cs := by
  obtain ⟨⟨base, ho⟩, hc⟩ := h
  have : ∃ cs : Array Value, v = .agg cs ∧ cs.size = Tryz.prog.cellsOf t := by
    rcases hu with ⟨fs, hu⟩ | ⟨n, e, hu⟩
    · exact okWide_struct hu ho
    · simp only [Value.okWide, hu] at ho
      obtain ⟨cs, h1, h2, _⟩ := ho
      exact ⟨cs, h1, h2⟩
  obtain ⟨⟨cs⟩, rfl, hs⟩ := this
  exact ⟨cs, rfl, by simpa using hs, by simpa [Value.cells] using hc⟩
end

/-- One cell, read. -/
theorem cells_one {W : World} {x : Addr} {es : List Value} (h : W.cells? 0 x 1 = some es) : ∃ v, es = [v] ∧ W.cell? x = some v := by
  unfold World.cells? at h
  rw [if_pos (Nat.zero_le _)] at h
  simp only [List.range_one, List.mapM_cons, List.mapM_nil] at h
  have e : x.add 0 = x := by simp [Addr.add]
  rw [e] at h
  cases hc : W.cell? x with
  | none => rw [hc] at h; cases h
  | some v => rw [hc] at h; exact ⟨v, by simpa using h.symm, rfl⟩

/-- Several cells, read. -/
theorem cells_many {W : World} {x : Addr} {n : Nat} {es : List Value} (h : W.cells? 0 x n = some es) : es.length = n ∧ ∀ i, i < n → ∃ v, es[i]? = some v ∧ W.cell? (x.add i) = some v := by
  unfold World.cells? at h
  rw [if_pos (Nat.zero_le _)] at h
  have hl : es.length = n := by simpa using mapM_some_length h
  refine ⟨hl, fun i hi => ?_⟩
  have := mapM_some_get h i i (by simp [hi])
  rw [List.getElem?_eq_getElem (by omega)] at this
  exact ⟨es[i], by rw [List.getElem?_eq_getElem (by omega)], this⟩

theorem cell_plain {W : World} {x : Addr} {v : Value} (h : W.cell? x = some v) : ∃ b off, x = ⟨b, off, none⟩ ∧ b < W.heap.size := by
  obtain ⟨b, off, spot⟩ := x
  have : spot = none := World.cell?_spot h
  subst this
  obtain ⟨o, ho, _⟩ := cells_of_cell h
  exact ⟨b, off, rfl, (Array.getElem?_eq_some_iff.1 ho).1⟩

theorem add_plain (b off j : Nat) : (⟨b, off, none⟩ : Addr).add j = ⟨b, off + j, none⟩ := by unfold Addr.add; split <;> simp_all
end Go.Proofs.YtbdfllamhcodjaaGreat

/- Slices of integers among the arguments; small arrays. -/
namespace Go.Proofs.YtbdfllamhcodjaaGreat
open Go.ChangeShapes Go.WideShapes Go.ChangeAt Go.RowKit
set_option linter.unusedVariables false

set_option maxRecDepth 100000 in
theorem sl_of_cells {k : IntKind} {W : World} {e : TypeId} {a : Option Addr} {len cap : Nat} (he : Tryz.prog.underlying e = some (.int k)) (hc : Tryz.prog.cellsOf e = 1)
    (h : (a = none ∧ len = 0 ∧ cap = 0) ∨ ∃ x, a = some x ∧ len ≤ cap ∧ cap ≤ maxLen ∧ ∀ i, i < cap → ∃ es, W.cells? 0 (x.add (i * Tryz.prog.cellsOf e)) (Tryz.prog.cellsOf e) = some es ∧ Cells W e es) :
    ∃ xs : List Int, xs.length = len ∧ len ≤ maxLen ∧ Sl k W (.slice a len cap) xs ∧ ∀ n ∈ xs, (Lit.int k n).wf = true := by
  rcases h with ⟨rfl, rfl, rfl⟩ | ⟨x, rfl, h1, h2, h3⟩
  · exact ⟨[], rfl, Nat.zero_le _, Sl.nil _ _, fun n hn => by cases hn⟩
  · rw [hc] at h3
    have h4 : ∀ i, i < cap → ∃ n, W.cell? (x.add i) = some (.int k n) ∧ (Lit.int k n).wf = true := by
      intro i hi
      obtain ⟨es, g1, g2⟩ := h3 i hi
      rw [Nat.mul_one] at g1
      obtain ⟨v, rfl, hv⟩ := cells_one g1
      obtain ⟨n, e1, wn⟩ := g2.int he
      simp at e1
      subst e1
      exact ⟨n, hv, wn⟩
    have h5 : ∀ i, ∃ n, i < cap → W.cell? (x.add i) = some (.int k n) ∧ (Lit.int k n).wf = true := fun i => by
      by_cases hi : i < cap
      · obtain ⟨n, hn⟩ := h4 i hi; exact ⟨n, fun _ => hn⟩
      · exact ⟨0, fun h => absurd h hi⟩
    obtain ⟨f, hf⟩ := Classical.axiomOfChoice h5
    refine ⟨(List.range len).map f, by simp, by omega, ?_, ?_⟩
    · refine ⟨some x, cap, by simp, by simp; omega, h2, ?_, fun e => by cases e⟩
      by_cases h0 : len = 0
      · subst h0; exact .inl rfl
      · obtain ⟨hc0, _⟩ := hf 0 (by omega)
        have e0 : x.add 0 = x := by simp [Addr.add]
        rw [e0] at hc0
        obtain ⟨b, off, rfl, hb⟩ := cell_plain hc0
        refine .inr ⟨b, off, rfl, hb, fun j hj => ?_⟩
        simp at hj
        have := (hf j (by omega)).1
        rw [add_plain] at this
        rw [this]
        simp [hj]
    · intro n hn
      obtain ⟨i, hi, rfl⟩ := List.mem_map.1 hn
      exact (hf i (by have := List.mem_range.1 hi; omega)).2

section
variable {W : World} {t e : TypeId} {v : Value} {k : IntKind}
set_option maxRecDepth 100000 in
theorem Arg.sl (h : Arg W t v) (hu : Tryz.prog.underlying t = some (.slice e)) (he : Tryz.prog.underlying e = some (.int k)) (hc : Tryz.prog.cellsOf e = 1) :
    ∃ a len cap, ∃ xs : List Int, v = .slice a len cap ∧ xs.length = len ∧ len ≤ maxLen ∧ Sl k W (.slice a len cap) xs ∧ ∀ n ∈ xs, (Lit.int k n).wf = true := by
  obtain ⟨a, len, cap, rfl, r⟩ := h.slice hu
  obtain ⟨xs, r⟩ := sl_of_cells he hc r
  exact ⟨a, len, cap, xs, rfl, r⟩
set_option maxRecDepth 100000 in
theorem Cells.sl {cs : List Value} (h : Cells W t cs) (hu : Tryz.prog.underlying t = some (.slice e)) (he : Tryz.prog.underlying e = some (.int k)) (hc : Tryz.prog.cellsOf e = 1) :
    ∃ a len cap, ∃ xs : List Int, cs = [.slice a len cap] ∧ xs.length = len ∧ len ≤ maxLen ∧ Sl k W (.slice a len cap) xs ∧ ∀ n ∈ xs, (Lit.int k n).wf = true := by
  obtain ⟨a, len, cap, rfl, r⟩ := h.slice hu
  obtain ⟨xs, r⟩ := sl_of_cells he hc r
  exact ⟨a, len, cap, xs, rfl, r⟩
set_option maxRecDepth 100000 in
theorem Arg.bytes (h : Arg W t v) (hu : Tryz.prog.underlying t = some (.slice e)) (he : Tryz.prog.underlying e = some (.int .u8)) (hc : Tryz.prog.cellsOf e = 1) :
    ∃ a len cap, ∃ xs : List Int, v = .slice a len cap ∧ xs.length = len ∧ len ≤ maxLen ∧ Sl .u8 W (.slice a len cap) xs ∧ IsBytes xs := by
  obtain ⟨a, len, cap, xs, rfl, h1, h2, h3, h4⟩ := h.sl hu he hc
  exact ⟨a, len, cap, xs, rfl, h1, h2, h3, fun j => by have := range_u8 h4 j; omega⟩
set_option maxRecDepth 100000 in
theorem Cells.bytes {cs : List Value} (h : Cells W t cs) (hu : Tryz.prog.underlying t = some (.slice e)) (he : Tryz.prog.underlying e = some (.int .u8)) (hc : Tryz.prog.cellsOf e = 1) :
    ∃ a len cap, ∃ xs : List Int, cs = [.slice a len cap] ∧ xs.length = len ∧ len ≤ maxLen ∧ Sl .u8 W (.slice a len cap) xs ∧ IsBytes xs := by
  obtain ⟨a, len, cap, xs, rfl, h1, h2, h3, h4⟩ := h.sl hu he hc
  exact ⟨a, len, cap, xs, rfl, h1, h2, h3, fun j => by have := range_u8 h4 j; omega⟩
end
end Go.Proofs.YtbdfllamhcodjaaGreat

/- Pairs of numbers among the arguments: slices of them, slices of such slices. -/
namespace Go.Proofs.YtbdfllamhcodjaaGreat
open Go.ChangeShapes Go.WideShapes Go.ChangeAt Go.RowKit
set_option linter.unusedVariables false

def IsI64 (n : Int) : Prop := -9223372036854775808 ≤ n ∧ n ≤ 9223372036854775807
/-- Pairs, one behind the other. -/
def Prs (W : World) (v : Value) (l : List (Int × Int)) : Prop := ∃ a cap, v = .slice a l.length cap ∧ l.length ≤ cap ∧ cap ≤ maxLen ∧ (∀ p ∈ l, IsI64 p.1 ∧ IsI64 p.2) ∧
  (l = [] ∨ ∃ b off, a = some ⟨b, off, none⟩ ∧ b < W.heap.size ∧ ∀ j p, l[j]? = some p → W.cell? ⟨b, off + j * 2, none⟩ = some (.int .i64 p.1) ∧ W.cell? ⟨b, off + j * 2 + 1, none⟩ = some (.int .i64 p.2))
theorem Prs.below {W W' : World} {v : Value} {l : List (Int × Int)} (h : Prs W v l) (hB : Below W.heap.size W W') : Prs W' v l := by
  obtain ⟨a, cap, rfl, h1, h2, h3, h4⟩ := h
  refine ⟨a, cap, rfl, h1, h2, h3, ?_⟩
  rcases h4 with h4 | ⟨b, off, rfl, h5, h6⟩
  · exact .inl h4
  · exact .inr ⟨b, off, rfl, Nat.lt_of_lt_of_le h5 hB.size, fun j p hj => ⟨(hB.cell (p := ⟨b, off + j * 2, none⟩) h5).trans (h6 j p hj).1, (hB.cell (p := ⟨b, off + j * 2 + 1, none⟩) h5).trans (h6 j p hj).2⟩⟩
set_option maxRecDepth 100000 in
/-- Two cells that read as a pair. -/
theorem pair_of_cells {W : World} {cs : List Value} (h : Cells W 129 cs) : ∃ p : Int × Int, (IsI64 p.1 ∧ IsI64 p.2) ∧ cs = [.int .i64 p.1, .int .i64 p.2] := by
  obtain ⟨hl, hj⟩ := h.array Tryz.underlying129
  rw [show Tryz.prog.cellsOf 3 = 1 from by kernel_rfl] at hj
  rw [show Tryz.prog.cellsOf 129 = 2 from by kernel_rfl] at hl
  match cs, hl with
  | [x, y], _ =>
    obtain ⟨a, e1, wa⟩ := (hj 0 (by omega)).int Tryz.underlying3
    obtain ⟨b, e2, wb⟩ := (hj 1 (by omega)).int Tryz.underlying3
    simp at e1 e2
    subst e1 e2
    exact ⟨(a, b), ⟨bounds_i64 wa, bounds_i64 wb⟩, rfl⟩
set_option maxRecDepth 100000 in
theorem prs_of {W : World} {a : Option Addr} {len cap : Nat}
    (r : (a = none ∧ len = 0 ∧ cap = 0) ∨ ∃ x, a = some x ∧ len ≤ cap ∧ cap ≤ maxLen ∧ ∀ i, i < cap → ∃ es, W.cells? 0 (x.add (i * Tryz.prog.cellsOf 129)) (Tryz.prog.cellsOf 129) = some es ∧ Cells W 129 es) :
    ∃ l, Prs W (.slice a len cap) l := by
  rcases r with ⟨rfl, rfl, rfl⟩ | ⟨x, rfl, h1, h2, h3⟩
  · exact ⟨[], none, 0, rfl, Nat.le_refl _, Nat.zero_le _, (fun s hs => by cases hs), .inl rfl⟩
  · rw [show Tryz.prog.cellsOf 129 = 2 from by kernel_rfl] at h3
    have h4 : ∀ i, i < cap → ∃ p : Int × Int, (IsI64 p.1 ∧ IsI64 p.2) ∧ W.cell? (x.add (i * 2)) = some (.int .i64 p.1) ∧ W.cell? ((x.add (i * 2)).add 1) = some (.int .i64 p.2) := by
      intro i hi
      obtain ⟨es, g1, g2⟩ := h3 i hi
      obtain ⟨p, hp, rfl⟩ := pair_of_cells g2
      have hm := (cells_many g1).2
      refine ⟨p, hp, ?_, ?_⟩
      · obtain ⟨u, hu1, hu2⟩ := hm 0 (by omega)
        cases hu1
        rwa [show (x.add (i * 2)).add 0 = x.add (i * 2) by simp [Addr.add]] at hu2
      · obtain ⟨u, hu1, hu2⟩ := hm 1 (by omega)
        cases hu1
        exact hu2
    have h5 : ∀ i, ∃ p : Int × Int, i < cap → (IsI64 p.1 ∧ IsI64 p.2) ∧ W.cell? (x.add (i * 2)) = some (.int .i64 p.1) ∧ W.cell? ((x.add (i * 2)).add 1) = some (.int .i64 p.2) := fun i => by
      by_cases hi : i < cap
      · obtain ⟨s, hs⟩ := h4 i hi; exact ⟨s, fun _ => hs⟩
      · exact ⟨(0, 0), fun h => absurd h hi⟩
    obtain ⟨f, hf⟩ := Classical.axiomOfChoice h5
    refine ⟨(List.range len).map f, some x, cap, by simp, by simp; omega, h2, fun s hs => ?_, ?_⟩
    · obtain ⟨i, hi, rfl⟩ := List.mem_map.1 hs
      exact (hf i (by have := List.mem_range.1 hi; omega)).1
    · by_cases h0 : len = 0
      · subst h0; exact .inl rfl
      · have hc0 := (hf 0 (by omega)).2.1
        rw [Nat.zero_mul, show x.add 0 = x by simp [Addr.add]] at hc0
        obtain ⟨b, off, rfl, hb⟩ := cell_plain hc0
        refine .inr ⟨b, off, rfl, hb, fun j s hj => ?_⟩
        have hjl : j < len := by have := (List.getElem?_eq_some_iff.1 hj).1; simpa using this
        have hs : s = f j := by rw [List.getElem?_map] at hj; simp [hjl] at hj; exact hj.symm
        subst hs
        have q := (hf j (by omega)).2
        simp only [add_plain] at q
        exact q
set_option maxRecDepth 100000 in
theorem Arg.prs {W : World} {v : Value} (h : Arg W 47 v) : ∃ l, Prs W v l := by
  obtain ⟨a, len, cap, rfl, r⟩ := h.slice Tryz.underlying47
  exact prs_of r
set_option maxRecDepth 100000 in
theorem Cells.prs {W : World} {cs : List Value} (h : Cells W 47 cs) : ∃ v l, cs = [v] ∧ Prs W v l := by
  obtain ⟨a, len, cap, rfl, r⟩ := h.slice Tryz.underlying47
  obtain ⟨l, hl⟩ := prs_of r
  exact ⟨_, l, rfl, hl⟩

/-- Slices of pairs, one behind the other. -/
def PrsS (W : World) (v : Value) (l : List (List (Int × Int))) : Prop := ∃ a cap, v = .slice a l.length cap ∧ l.length ≤ cap ∧ cap ≤ maxLen ∧
  (l = [] ∨ ∃ b off, a = some ⟨b, off, none⟩ ∧ b < W.heap.size ∧ ∀ j ps, l[j]? = some ps → ∃ u, W.cell? ⟨b, off + j, none⟩ = some u ∧ Prs W u ps)
set_option maxRecDepth 100000 in
theorem prsS_of {W : World} {a : Option Addr} {len cap : Nat}
    (r : (a = none ∧ len = 0 ∧ cap = 0) ∨ ∃ x, a = some x ∧ len ≤ cap ∧ cap ≤ maxLen ∧ ∀ i, i < cap → ∃ es, W.cells? 0 (x.add (i * Tryz.prog.cellsOf 47)) (Tryz.prog.cellsOf 47) = some es ∧ Cells W 47 es) :
    ∃ l, PrsS W (.slice a len cap) l := by
  rcases r with ⟨rfl, rfl, rfl⟩ | ⟨x, rfl, h1, h2, h3⟩
  · exact ⟨[], none, 0, rfl, Nat.le_refl _, Nat.zero_le _, .inl rfl⟩
  · rw [show Tryz.prog.cellsOf 47 = 1 from by kernel_rfl] at h3
    have h4 : ∀ i, i < cap → ∃ ps : List (Int × Int), ∃ u, W.cell? (x.add i) = some u ∧ Prs W u ps := by
      intro i hi
      obtain ⟨es, g1, g2⟩ := h3 i hi
      obtain ⟨v, l, rfl, hp⟩ := g2.prs
      rw [Nat.mul_one] at g1
      obtain ⟨u, hu, hv⟩ := cells_one g1
      cases hu
      exact ⟨l, v, hv, hp⟩
    have h5 : ∀ i, ∃ ps : List (Int × Int), i < cap → ∃ u, W.cell? (x.add i) = some u ∧ Prs W u ps := fun i => by
      by_cases hi : i < cap
      · obtain ⟨s, hs⟩ := h4 i hi; exact ⟨s, fun _ => hs⟩
      · exact ⟨[], fun h => absurd h hi⟩
    obtain ⟨f, hf⟩ := Classical.axiomOfChoice h5
    refine ⟨(List.range len).map f, some x, cap, by simp, by simp; omega, h2, ?_⟩
    by_cases h0 : len = 0
    · subst h0; exact .inl rfl
    · obtain ⟨u0, hc0, _⟩ := hf 0 (by omega)
      rw [show x.add 0 = x by simp [Addr.add]] at hc0
      obtain ⟨b, off, rfl, hb⟩ := cell_plain hc0
      refine .inr ⟨b, off, rfl, hb, fun j s hj => ?_⟩
      have hjl : j < len := by have := (List.getElem?_eq_some_iff.1 hj).1; simpa using this
      have hs : s = f j := by rw [List.getElem?_map] at hj; simp [hjl] at hj; exact hj.symm
      subst hs
      have q := hf j (by omega)
      simp only [add_plain] at q
      exact q
set_option maxRecDepth 100000 in
theorem Arg.prsS {W : World} {v : Value} (h : Arg W 89 v) : ∃ l, PrsS W v l := by
  obtain ⟨a, len, cap, rfl, r⟩ := h.slice Tryz.underlying89
  exact prsS_of r
end Go.Proofs.YtbdfllamhcodjaaGreat

/- Transactions in memory: slices of slices of images. -/
namespace Go.Proofs.YtbdfllamhcodjaaGreat
open Go.RowKit
set_option linter.unusedVariables false

/-- Transactions that have been made since block N. -/
def TxnsR (eS eI : TypeId) (x : World) (N : Nat) (v : Value) (ts : List (List Img)) : Prop :=
  ∃ vs : List Value, vs.length = ts.length ∧ x.ownsRow N eS 1 v vs.length vs ∧ ∀ (i : Nat) (u : Value) (t : List Img), vs[i]? = some u → ts[i]? = some t → x.ownsRow N eI 49 u t.length (imgR t).flatten
theorem own_belowT {x x' : World} {N e sz n : Nat} {v : Value} {xs : List Value} (h : x.ownsRow N e sz v n xs) (hb : Below x.heap.size x x') : x'.ownsRow N e sz v n xs := by
  refine ⟨h.1, ?_⟩
  rcases h.2 with h' | ⟨g, cap, cur, rfl, a1, a2, a3⟩
  · exact .inl h'
  · exact .inr ⟨g, cap, cur, rfl, a1, (hb.block g (Array.getElem?_eq_some_iff.1 a2).1).trans a2, a3⟩
theorem TxnsR.below {eS eI : TypeId} {x y : World} {N : Nat} {v : Value} {ts : List (List Img)} (h : TxnsR eS eI x N v ts) (hb : Below x.heap.size x y) : TxnsR eS eI y N v ts := by
  obtain ⟨vs, h1, h2, h3⟩ := h
  exact ⟨vs, h1, own_belowT h2 hb, fun i u t hu ht => own_belowT (h3 i u t hu ht) hb⟩
theorem row_ne {x : World} {N e sz n B : Nat} {v : Value} {xs C : List Value} {t : TypeId} (h : x.ownsRow N e sz v n xs) (hB : RowC x B t C) (hne : e ≠ t) : v.ownBlock ≠ some B := by
  rcases h.2 with ⟨rfl, _⟩ | ⟨g, cap, cur, rfl, _, hg, _⟩
  · simp [Value.ownBlock]
  · intro e'
    obtain rfl : g = B := by simpa [Value.ownBlock] using e'
    have hB' : x.heap[g]? = some (.cells C.toArray t (0, 0)) := hB
    rw [hg] at hB'
    cases hB'
    exact hne rfl
theorem rows_ne {x : World} {N N' e e' sz sz' n n' : Nat} {v v' : Value} {xs xs' : List Value} (h : x.ownsRow N e sz v n xs) (h' : x.ownsRow N' e' sz' v' n' xs') (hne : e ≠ e') : v.ownBlock = none ∨ v.ownBlock ≠ v'.ownBlock := by
  rcases h.2 with ⟨rfl, _⟩ | ⟨g, cap, cur, rfl, _, hg, _⟩
  · exact .inl rfl
  · right
    rcases h'.2 with ⟨rfl, _⟩ | ⟨g', cap', cur', rfl, _, hg', _⟩
    · simp [Value.ownBlock]
    · intro ee
      obtain rfl : g = g' := by simpa [Value.ownBlock] using ee
      rw [hg] at hg'
      cases hg'
      exact hne rfl
theorem grownBy_setCellJ (W : World) (b j : Nat) (v : Value) : W.grownBy (W.setCell ⟨b, j, none⟩ v) (some b) :=
  ⟨rfl, rfl, rfl, (KeepsWalks.setCell W _ v).size, fun k _ hk => Below.heap_setCell _ _ _ k (fun e => hk (by rw [e]))⟩
theorem TxnsR.grownC {eS eI : TypeId} {x y : World} {N B : Nat} {v : Value} {ts : List (List Img)} {C : List Value} {t : TypeId} (h : TxnsR eS eI x N v ts) (hB : RowC x B t C) (h1 : eS ≠ t) (h2 : eI ≠ t) (hg : x.grownBy y (some B)) : TxnsR eS eI y N v ts := by
  obtain ⟨vs, g1, g2, g3⟩ := h
  exact ⟨vs, g1, g2.kept hg (.inr (row_ne g2 hB h1)), fun i w t hw ht => (g3 i w t hw ht).kept hg (.inr (row_ne (g3 i w t hw ht) hB h2))⟩
theorem RowC.grown {x y : World} {B : Nat} {t : TypeId} {C : List Value} {row : Option Nat} (h : RowC x B t C) (hg : x.grownBy y row) (hne : row ≠ some B) : RowC y B t C := (hg.block B h.lt (fun e => hne e.symm)).trans h
theorem row_lenT {W : World} {base sz n : Nat} {e : TypeId} {v : Value} {xs : List Value} (h : W.ownsRow base e sz v n xs) : ∃ ra c, v = .slice ra n c ∧ (0 < n → ∃ g, ra = some ⟨g, 0, none⟩ ∧ g < W.heap.size ∧ W.rangeAt g 0 xs) := by
  rcases h.2 with ⟨rfl, rfl⟩ | ⟨g, cap, cur, rfl, _, hg, _⟩
  · exact ⟨_, _, rfl, fun h => absurd h (by omega)⟩
  · refine ⟨_, _, rfl, fun _ => ⟨g, rfl, (Array.getElem?_eq_some_iff.1 hg).1, fun j u hj => ?_⟩⟩
    have := h.cells (g := g) rfl j u hj
    rwa [Addr.add_mid] at this

-- revetmentref06.Image
set_option maxRecDepth 100000 in
theorem info_slsD : (Tryz.prog.info? 130).map (fun i => (i.zero, i.size, i.bytes)) = some (some (.slice none 0 0), 1, 24) := by kernel_rfl
set_option maxRecDepth 100000 in
theorem slice_slsD (w : World) (a : Option Addr) (n c : Nat) : (Instr.buildSlice 155 1 #[(0, .slice a n c)]).run Tryz.prog w = .ok (.slice (some ⟨w.heap.size, 0, none⟩) 1 1) (w.alloc (.cells #[.slice a n c] 130)) := by kernel_rfl
end Go.Proofs.YtbdfllamhcodjaaGreat

/- The document's Append. -/
namespace Go.Proofs.YtbdfllamhcodjaaGreat
open Go.RowKit Go.Shelf
set_option linter.unusedVariables false
attribute [-simp] Tryz.isAgg60 Tryz.zeroValue60 Tryz.isAgg112 Tryz.zeroValue112 Tryz.isAgg167 Tryz.zeroValue167 Tryz.isAgg139 Tryz.zeroValue139
attribute [-go_sem] loadVar storeVar run_equalIn_agg
attribute [local go_sem] zero_blk build_blk zero_bod build_bod zero_sec zero_imgR loadVar_open5 storeVar_open5

/-- Cells of the k-th image. -/
theorem img_cells {w : World} {g : Nat} {t : List Img} (hg : w.rangeAt g 0 (imgR t).flatten) (hok : ∀ x ∈ t, x.Ok) {k : Nat} {x : Img} (hx : t[k]? = some x) : w.rangeAt g (k * 49) x.cells := by
  rw [Nat.mul_comm]
  have hl : ∀ (t : List Img), (∀ x ∈ t, x.Ok) → (imgR t).flatten.length = 49 * t.length := fun t => by
    induction t with
    | nil => intro _; rfl
    | cons y t ih =>
      intro h
      show (y.cells ++ (imgR t).flatten).length = _
      rw [List.length_append, ih (fun x hx => h x (List.mem_cons_of_mem _ hx)), Img.cells_length (h y List.mem_cons_self).len, List.length_cons]
      omega
  obtain ⟨hk, e⟩ := List.getElem?_eq_some_iff.1 hx
  have e1 : t = t.take k ++ x :: t.drop (k + 1) := by
    rw [← e, ← List.drop_eq_getElem_cons hk, List.take_append_drop]
  have e2 : (imgR t).flatten = (imgR (t.take k)).flatten ++ (x.cells ++ (imgR (t.drop (k + 1))).flatten) := by
    conv => lhs; rw [e1]
    unfold imgR
    rw [List.map_append, List.flatten_append]
    rfl
  have hl1 := hl (t.take k) (fun x hx => hok x (List.mem_of_mem_take hx))
  rw [List.length_take, Nat.min_eq_left (Nat.le_of_lt hk)] at hl1
  intro j u hj
  have hj' : j < x.cells.length := (List.getElem?_eq_some_iff.1 hj).1
  have := hg (49 * k + j) u (by
    rw [e2, List.getElem?_append_right (by omega), hl1, show 49 * k + j - 49 * k = j by omega, List.getElem?_append_left hj']
    exact hj)
  rwa [Nat.zero_add] at this

end Go.Proofs.YtbdfllamhcodjaaGreat

/- The document's Replay. -/
namespace Go.Proofs.YtbdfllamhcodjaaGreat
open Go.RowKit Go.Shelf
set_option linter.unusedVariables false
attribute [-simp] Tryz.isAgg60 Tryz.zeroValue60 Tryz.isAgg112 Tryz.zeroValue112 Tryz.isAgg167 Tryz.zeroValue167 Tryz.isAgg139 Tryz.zeroValue139
attribute [-go_sem] loadVar storeVar run_equalIn_agg
attribute [local go_sem] zero_blk build_blk zero_bod build_bod zero_sec zero_imgR 

/-- Whatever is no block, no body, no document's sector and no log is read and written cell by cell. -/
theorem loadVar_openL (t : TypeId) (h : t ≠ 60 ∧ t ≠ 112 ∧ t ≠ 167 ∧ t ≠ 172) (a : Addr) : loadVar t a = (do if ← isAgg t then pure (.agg (← loadCells a (← sizeOf t))) else load a) := rfl
theorem storeVar_openL (t : TypeId) (h : t ≠ 60 ∧ t ≠ 167 ∧ t ≠ 172) (a : Addr) (v : Value) : storeVar t a v = (do
    if v.cells.size ≠ (← sizeOf t) then stuck "storeVar: the value has not the size of the variable"
    storeCells a v.cells.toList) := rfl
attribute [local go_sem] loadVar_openL storeVar_openL
theorem own_from {x : World} {N M e sz n : Nat} {v : Value} {xs : List Value} (h : x.ownsRow M e sz v n xs) (hN : N ≤ M) : x.ownsRow N e sz v n xs := by
  refine ⟨h.1, ?_⟩
  rcases h.2 with h' | ⟨g, cap, cur, rfl, a1, a2⟩
  · exact .inl h'
  · exact .inr ⟨g, cap, cur, rfl, Nat.le_trans hN a1, a2⟩
def lenAt (x : World) (B : Nat) : Nat := match x.cell? ⟨B, 0, none⟩ with | some (.slice _ n _) => n | _ => 0

end Go.Proofs.YtbdfllamhcodjaaGreat

/- What the statements of layer 6 use: image. -/
namespace Go.Proofs.YtbdfllamhcodjaaGreat
open Go.RowKit Go.Shelf
set_option linter.unusedVariables false
/-- Whatever is no block, no body, no sector, no image and no log is read and written cell by cell. -/
theorem loadVar_open6 (t : TypeId) (h : t ≠ 60 ∧ t ≠ 112 ∧ t ≠ 167 ∧ t ≠ 172 ∧ t ≠ 139 ∧ t ≠ 157 ∧ t ≠ 133) (a : Addr) : loadVar t a = (do if ← isAgg t then pure (.agg (← loadCells a (← sizeOf t))) else load a) := rfl
theorem storeVar_open6 (t : TypeId) (h : t ≠ 60 ∧ t ≠ 167 ∧ t ≠ 172 ∧ t ≠ 139 ∧ t ≠ 157 ∧ t ≠ 133) (a : Addr) (v : Value) : storeVar t a v = (do
    if v.cells.size ≠ (← sizeOf t) then stuck "storeVar: the value has not the size of the variable"
    storeCells a v.cells.toList) := rfl
attribute [-simp] Tryz.isAgg60 Tryz.zeroValue60 Tryz.isAgg112 Tryz.zeroValue112 Tryz.isAgg167 Tryz.zeroValue167 Tryz.isAgg139 Tryz.zeroValue139 Tryz.isAgg133 Tryz.zeroValue133
attribute [-go_sem] loadVar storeVar run_equalIn_agg
attribute [local go_sem] zero_blk build_blk zero_bod build_bod zero_sec zero_imgR zero_imgD loadVar_open6 storeVar_open6

end Go.Proofs.YtbdfllamhcodjaaGreat

/- right: pages that may be. -/
namespace Go.Proofs.YtbdfllamhcodjaaGreat
open Go.RowKit Go.Shelf
set_option linter.unusedVariables false
attribute [-go_sem] loadVar storeVar run_equalIn_agg
attribute [local go_sem] loadVar_open6 storeVar_open6

def RightP (ps : List (Int × Int)) (most : Int) : Prop := (∀ p ∈ ps, 0 ≤ p.1 ∧ p.1 ≤ 65535) ∧ 1 ≤ ps.length ∧ (ps.length : Int) ≤ most
instance (ps : List (Int × Int)) (most : Int) : Decidable (RightP ps most) := by unfold RightP; infer_instance

end Go.Proofs.YtbdfllamhcodjaaGreat

/- images: pairs made images, the program's and the document's. -/
namespace Go.Proofs.YtbdfllamhcodjaaGreat
open Go.RowKit Go.Shelf
set_option linter.unusedVariables false
attribute [-simp] Tryz.isAgg60 Tryz.zeroValue60 Tryz.isAgg112 Tryz.zeroValue112 Tryz.isAgg167 Tryz.zeroValue167 Tryz.isAgg139 Tryz.zeroValue139 Tryz.isAgg133 Tryz.zeroValue133
attribute [-go_sem] loadVar storeVar run_equalIn_agg
attribute [local go_sem] zero_blk build_blk zero_bod build_bod zero_sec zero_imgR zero_imgD loadVar_open6 storeVar_open6

theorem wpQuiet_struct_run {P : Program} {C : World → Prop} {ops : Array Oper} {rest : List Oper} {o : Oper} {a : Act} {Q : Act → Prop} (t : TypeId) (parts : Array (Nat × Operand))
    (ho : o.op = .build t parts) (hw : Region.wanted o (yielded ops a.tmps) = true) (vs : List (Nat × Value)) (v' : Value) (hs : (parts.toList.map fun (i, x) => (i, a.eval x)) = vs)
    (hrun : ∀ x, C x → (Instr.build t vs.toArray).run P x = .ok v' x) (h : wpQuiet P ops C Q rest (a.put o.dst v')) : wpQuiet P ops C Q (o :: rest) a := by
  unfold wpQuiet
  rw [if_pos hw]
  refine ⟨v', fun x hx => ?_, h⟩
  have hs' : (parts.map fun (i, x) => (i, a.eval x)) = vs.toArray := by
    apply Array.toList_inj.1
    rw [Array.toList_map, hs]
  unfold Oper.quietAt
  simp only [execOp, ho, Sem.run_bind, hs', hrun x hx, Result.andThen_ok, Sem.run_pure]
  exact ⟨rfl, rfl⟩
end Go.Proofs.YtbdfllamhcodjaaGreat

/- same: logs of the same transactions are alike. -/
namespace Go.Proofs.YtbdfllamhcodjaaGreat
open Go.RowKit Go.Shelf
set_option linter.unusedVariables false
attribute [-simp] Tryz.isAgg60 Tryz.zeroValue60 Tryz.isAgg112 Tryz.zeroValue112 Tryz.isAgg167 Tryz.zeroValue167 Tryz.isAgg139 Tryz.zeroValue139 Tryz.isAgg133 Tryz.zeroValue133
attribute [-go_sem] loadVar storeVar run_equalIn_agg
attribute [local go_sem] zero_blk build_blk zero_bod build_bod zero_sec zero_imgR zero_imgD loadVar_open6 storeVar_open6

def logD (v : Value) (a : Nat) (q : Int) : List Value := [v, .int .i64 (a : Int), .int .u32 q]
/-- What transactions in memory are, cell by cell. -/
theorem TxnsR.at {eS eI : TypeId} {x : World} {N : Nat} {v : Value} {ts : List (List Img)} (h : TxnsR eS eI x N v ts) : ∃ ra c, v = .slice ra ts.length c ∧ ∀ (i : Nat) (t : List Img), ts[i]? = some t →
    ∃ g, ra = some ⟨g, 0, none⟩ ∧ g < x.heap.size ∧ ∃ rb d, x.cell? ⟨g, i, none⟩ = some (.slice rb t.length d) ∧ (0 < t.length → ∃ b, rb = some ⟨b, 0, none⟩ ∧ b < x.heap.size ∧ x.rangeAt b 0 (imgR t).flatten) := by
  obtain ⟨vs, h1, h2, h3⟩ := h
  obtain ⟨ra, c, rfl, hr⟩ := row_lenT h2
  refine ⟨ra, c, by rw [h1], fun i t ht => ?_⟩
  have hi : i < vs.length := by rw [h1]; exact (List.getElem?_eq_some_iff.1 ht).1
  obtain ⟨g, rfl, hg, hc⟩ := hr (by omega)
  have hu := List.getElem?_eq_getElem hi
  obtain ⟨rb, d, hv, hb⟩ := row_lenT (h3 i _ t hu ht)
  have := hc i _ hu
  rw [Nat.zero_add, hv] at this
  exact ⟨g, rfl, hg, rb, d, this, hb⟩

end Go.Proofs.YtbdfllamhcodjaaGreat

/- What the developers' ring promises. -/
namespace Go.Proofs.YtbdfllamhcodjaaGreat
open Go.RowKit
set_option linter.unusedVariables false

/-- What is promised of the two. -/
structure RingOk : Prop where
  replay : ∀ {rb p0 p1 : Nat} {S : RS} {w : World} {f : Nat → Prop}, RigR rb p0 p1 S w f → S.Byt → S.down = false → ∀ {F C A : Nat}, 2 ≤ C → C ≤ 256 → F + C ≤ S.n0 → A < C → S.n0 ≤ 4096 → ∀ {seq : Int}, IsSeq seq →
    Calls Tryz.prog 80 #[.pointer (some ⟨rb, 0, none⟩), .int .i64 (F : Int), .int .i64 (C : Int), .int .i64 (A : Int), .int .u32 seq] w fun e w' =>
      (∃ v, e = .returned (.tuple #[.agg (logD v (repS S.rd F C A seq).2.1 (repS S.rd F C A seq).2.2).toArray, .int .i64 0]) ∧ TxnsR 130 133 w' w.heap.size v (repS S.rd F C A seq).1) ∧ Below w.heap.size w w'
  replay_no : ∀ {rb p0 p1 : Nat} {S : RS} {w : World} {f : Nat → Prop}, RigR rb p0 p1 S w f → S.n0 ≤ 4096 → ∀ {frm count at0 seq : Int}, mayR S.n0 frm count at0 = false →
    Calls Tryz.prog 80 #[.pointer (some ⟨rb, 0, none⟩), .int .i64 frm, .int .i64 count, .int .i64 at0, .int .u32 seq] w fun e w' => e = .returned (.tuple #[.agg (logD (.slice none 0 0) 0 0).toArray, .int .i64 1]) ∧ Below w.heap.size w w'
  replay_nil : ∀ (frm count at0 seq : Int) (w : World),
    Calls Tryz.prog 80 #[.pointer none, .int .i64 frm, .int .i64 count, .int .i64 at0, .int .u32 seq] w fun e w' => e = .returned (.tuple #[.agg (logD (.slice none 0 0) 0 0).toArray, .int .i64 1]) ∧ Below w.heap.size w w'
  append : ∀ {rb p0 p1 : Nat} {S : RS} {w : World} {f : Nat → Prop}, RigR rb p0 p1 S w f → S.fuse ≤ 1000000 → 0 ≤ S.done → S.done ≤ 900000 → S.Few 250 → ∀ {F C A : Nat}, 2 ≤ C → C ≤ 256 → F + C ≤ S.n0 → A < C → S.n0 ≤ 4096 → ∀ {seq : Int}, IsSeq seq →
    ∀ {t : List Img}, TxnOk C t → ∀ {g c : Nat}, w.rangeAt g 0 (imgR t).flatten → g < w.heap.size → ¬ f g →
    Calls Tryz.prog 66 #[.pointer (some ⟨rb, 0, none⟩), .int .i64 (F : Int), .int .i64 (C : Int), .int .i64 (A : Int), .int .u32 seq, .slice (some ⟨g, 0, none⟩) t.length c] w fun e w' =>
      e = .returned (.tuple #[.int .i64 (if (S.app F C A seq t).2 = 0 then (((A + t.length + 1) % C : Nat) : Int) else 0), .int .i64 (S.app F C A seq t).2]) ∧ ∃ f', RigR rb p0 p1 (S.app F C A seq t).1 w' f' ∧ Turn f f' w w'
  append_no : ∀ {rb p0 p1 : Nat} {S : RS} {w : World} {f : Nat → Prop}, RigR rb p0 p1 S w f → S.n0 ≤ 4096 → ∀ {frm count at0 seq : Int}, mayR S.n0 frm count at0 = false → ∀ {a : Option Addr} {n c : Nat}, n ≤ 1000000 →
    Calls Tryz.prog 66 #[.pointer (some ⟨rb, 0, none⟩), .int .i64 frm, .int .i64 count, .int .i64 at0, .int .u32 seq, .slice a n c] w fun e w' => e = .returned (.tuple #[.int .i64 0, .int .i64 1]) ∧ Below w.heap.size w w'
  append_nil : ∀ (frm count at0 seq : Int) (w : World) {a : Option Addr} {n c : Nat}, n ≤ 1000000 →
    Calls Tryz.prog 66 #[.pointer none, .int .i64 frm, .int .i64 count, .int .i64 at0, .int .u32 seq, .slice a n c] w fun e w' => e = .returned (.tuple #[.int .i64 0, .int .i64 1]) ∧ Below w.heap.size w w'
  append_long : ∀ {rb p0 p1 : Nat} {S : RS} {w : World} {f : Nat → Prop}, RigR rb p0 p1 S w f → S.n0 ≤ 4096 → ∀ {F C A : Nat}, 2 ≤ C → C ≤ 256 → F + C ≤ S.n0 → A < C → ∀ {seq : Int} {a : Option Addr} {n c : Nat}, (n < 1 ∨ C < n + 1) → n ≤ 1000000 →
    Calls Tryz.prog 66 #[.pointer (some ⟨rb, 0, none⟩), .int .i64 (F : Int), .int .i64 (C : Int), .int .i64 (A : Int), .int .u32 seq, .slice a n c] w fun e w' => e = .returned (.tuple #[.int .i64 0, .int .i64 2]) ∧ Below w.heap.size w w'
  append_bad : ∀ {rb p0 p1 : Nat} {S : RS} {w : World} {f : Nat → Prop}, RigR rb p0 p1 S w f → S.n0 ≤ 4096 → ∀ {F C A : Nat}, 2 ≤ C → C ≤ 256 → F + C ≤ S.n0 → A < C → ∀ {seq : Int}, IsSeq seq → ∀ {t : List Img}, 1 ≤ t.length → t.length + 1 ≤ C → (∀ x ∈ t, x.Ok) → (¬ ∀ x ∈ t, x.fits) → ∀ {g c : Nat}, w.rangeAt g 0 (imgR t).flatten → g < w.heap.size →
    Calls Tryz.prog 66 #[.pointer (some ⟨rb, 0, none⟩), .int .i64 (F : Int), .int .i64 (C : Int), .int .i64 (A : Int), .int .u32 seq, .slice (some ⟨g, 0, none⟩) t.length c] w fun e w' => e = .returned (.tuple #[.int .i64 0, .int .i64 1]) ∧ Below w.heap.size w w'
end Go.Proofs.YtbdfllamhcodjaaGreat

/- A nil rig. -/
namespace Go.Proofs.YtbdfllamhcodjaaGreat
open Go.RowKit Go.Shelf
set_option linter.unusedVariables false
attribute [-simp] Tryz.isAgg60 Tryz.zeroValue60
attribute [-go_sem] loadVar storeVar
attribute [local go_sem] zero_blk build_blk loadVar_open storeVar_open

set_option maxRecDepth 100000 in
set_option maxHeartbeats 1000000 in
theorem nil_len (dev : Int) (w : World) : Calls Tryz.prog 94 #[.pointer none, .int .i64 dev] w fun e w' => e = .returned (.int .i64 0) ∧ Below w.heap.size w w' := by
  have H1 := Lib.hid (disk_nil dev w)
  go_enter Tryz.func94, Tryz.ntmps94
  go_wp2_with fail
  refine H1.out.mono ?_
  rintro e x1 ⟨rfl, hb⟩
  have HB := Lib.hid hb
  clear hb
  go_wp2_with fail
  refine (len_nil x1).mono ?_
  rintro e w' ⟨rfl, rfl⟩
  go_wp2_with fail
  go_ret
  exact ⟨rfl, HB.out⟩

end Go.Proofs.YtbdfllamhcodjaaGreat

/- The developers' ring: sector, isImage, commit, fits. -/
namespace Go.Proofs.YtbdfllamhcodjaaGreat
open Go.RowKit Go.Shelf
set_option linter.unusedVariables false
attribute [-simp] Tryz.isAgg60 Tryz.zeroValue60 Tryz.isAgg112 Tryz.zeroValue112 Tryz.isAgg189 Tryz.zeroValue189 Tryz.isAgg133 Tryz.zeroValue133
attribute [-go_sem] loadVar storeVar run_equalIn_agg
attribute [local go_sem] zero_blk build_blk zero_bod zero_pg build_pg build_pg0 zero_imgD loadVar_open4 storeVar_open4

set_option maxRecDepth 100000 in
set_option maxHeartbeats 1000000 in
theorem rgSector {F C P : Nat} (hC : 1 ≤ C) (hC2 : C ≤ 256) (hF : F ≤ 4096) (hP : P ≤ 1000000) (w : World) :
    Calls Tryz.prog 123 #[.int .i64 (F : Int), .int .i64 (C : Int), .int .i64 (P : Int)] w fun e w' => e = .returned (.int .i64 ((F + P % C : Nat) : Int)) ∧ w' = w := by
  have hz : ¬ ((C : Int) = 0) := by omega
  obtain ⟨i, hi⟩ : ∃ i, F + P % C = i := ⟨_, rfl⟩
  have hii : (F : Int) + (P : Int) % (C : Int) = (i : Int) := by rw [← hi]; simp
  have hi4 : (i : Int) < 5000 := by have := Nat.mod_lt P (show 0 < C by omega); omega
  rw [hi]
  clear hi
  go_enter Tryz.func123, Tryz.ntmps123
  go_wp2_with fail
  go_ret
  exact ⟨rfl, rfl⟩

set_option maxRecDepth 100000 in
set_option maxHeartbeats 1000000 in
theorem rgIsImage (p : Sct) (hp : p.body.length = 48) (seq : Int) (w : World) :
    Calls Tryz.prog 124 #[.agg p.cells.toArray, .int .u32 seq] w fun e w' => e = .returned (.bool (p.mark == 73 && p.seq == seq)) ∧ Below w.heap.size w w' := by
  obtain ⟨W, hW⟩ : ∃ W, w.alloc (.cells p.cells.toArray 189) = W := ⟨_, rfl⟩
  have r : RowC W w.heap.size 189 p.cells := by rw [← hW]; exact RowC.new w _ _
  have c0 : W.cell? ⟨w.heap.size, 0, none⟩ = some (.int .u8 p.mark) := r.cell 0 _ rfl
  have c1 : W.cell? ⟨w.heap.size, 1, none⟩ = some (.int .u32 p.seq) := r.cell 1 _ rfl
  have HB : Hid (Below w.heap.size w W) := by show Below _ _ _; rw [← hW]; exact below_new w _
  obtain ⟨mk, hmk⟩ : ∃ n, p.mark = n := ⟨_, rfl⟩
  obtain ⟨sq, hsq⟩ : ∃ n, p.seq = n := ⟨_, rfl⟩
  rw [hmk] at c0 ⊢
  rw [hsq] at c1 ⊢
  clear r hmk hsq
  go_enter Tryz.func124, Tryz.ntmps124
  go_wp2_with fail
  all_goals
    go_ret
    first | exact ⟨rfl, HB.out⟩ | (refine ⟨?_, HB.out⟩; simp_all)

set_option maxRecDepth 100000 in
set_option maxHeartbeats 1000000 in
theorem rgCommit (seq : Int) (n : Nat) (w : World) :
    Calls Tryz.prog 125 #[.int .u32 seq, .int .i64 (n : Int)] w fun e w' => e = .returned (.agg (comSct seq n).cells.toArray) ∧ Below w.heap.size w w' := by
  obtain ⟨y, ST, r, hb⟩ := new_pg w (comSct seq n) (by simp [comSct])
  have LD := r.pg (by simp [comSct])
  have e1 : (comSct seq n).cells.toArray = (((zcs.set 0 (.int .u8 67)).set 1 (.int .u32 seq)).set 2 (.int .i64 (n : Int))).toArray := rfl
  have HB := Lib.hid hb
  rw [e1] at ST
  clear r hb
  go_enter Tryz.func125, Tryz.ntmps125
  go_wp2_with fail
  refine bodyPost_ret (results_cell rfl rfl LD) rfl ⟨rfl, HB.out⟩

set_option maxRecDepth 100000 in
set_option maxHeartbeats 1000000 in
/-- **fits**, of whatever has so many sectors. -/
theorem rgFits {v : Value} {n : Nat} (hn : n ≤ 4096) (frm count at0 : Int) (w : World)
    (HL : Calls Tryz.prog 94 #[v, .int .i64 0] w fun e w' => e = .returned (.int .i64 (n : Int)) ∧ Below w.heap.size w w') :
    Calls Tryz.prog 108 #[v, .int .i64 frm, .int .i64 count, .int .i64 at0] w fun e w' => e = .returned (.bool (mayR n frm count at0)) ∧ Below w.heap.size w w' := by
  have H := Lib.hid HL
  clear HL
  have HM : Hid (mayR n frm count at0 = decide (0 ≤ frm ∧ 2 ≤ count ∧ count ≤ 256 ∧ frm ≤ n ∧ count ≤ n - frm ∧ 0 ≤ at0 ∧ at0 < count)) := rfl
  by_cases h1 : count < 2
  · go_enter Tryz.func108, Tryz.ntmps108
    go_wp2_with fail
    all_goals
      go_ret
      refine ⟨?_, Below.refl _ _⟩
      rw [HM.out, decide_eq_false (by omega)]; rfl
  · by_cases h2 : 256 < count
    · go_enter Tryz.func108, Tryz.ntmps108
      go_wp2_with fail
      all_goals
        go_ret
        refine ⟨?_, Below.refl _ _⟩
        rw [HM.out, decide_eq_false (by omega)]; rfl
    · have g1 : decide (count < 2) = false := by simpa using h1
      have g2 : decide (256 < count) = false := by simpa using h2
      have g3 : decide (count > 256) = false := g2
      by_cases h3 : 0 ≤ frm
      · have g4 : decide (0 ≤ frm) = true := by simpa using h3
        have g5 : decide (frm ≥ 0) = true := g4
        go_enter Tryz.func108, Tryz.ntmps108
        go_wp2_with fail
        go_at_call 94
        refine H.out.mono ?_
        rintro e x ⟨rfl, hb⟩
        have HB := Lib.hid hb
        clear hb
        go_wp2_with fail
        all_goals
          go_ret
          refine ⟨?_, HB.out⟩
          rw [HM.out]
          first
            | (rw [decide_eq_false (by omega)]; rfl)
            | (rw [decide_eq_true (by omega)]; rfl)
            | (refine congrArg (fun b => Ending.returned (Value.bool b)) ?_; simp only [decide_eq_decide]; omega)
      · have g4 : decide (0 ≤ frm) = false := by simpa using h3
        have g5 : decide (frm ≥ 0) = false := g4
        go_enter Tryz.func108, Tryz.ntmps108
        go_wp2_with fail
        all_goals
          go_ret
          refine ⟨?_, Below.refl _ _⟩
          rw [HM.out, decide_eq_false (by omega)]; rfl
end Go.Proofs.YtbdfllamhcodjaaGreat

/- The developers' ring: store. -/
namespace Go.Proofs.YtbdfllamhcodjaaGreat
open Go.RowKit Go.Shelf
set_option linter.unusedVariables false
attribute [-simp] Tryz.isAgg60 Tryz.zeroValue60 Tryz.isAgg112 Tryz.zeroValue112 Tryz.isAgg189 Tryz.zeroValue189 Tryz.isAgg133 Tryz.zeroValue133
attribute [-go_sem] loadVar storeVar run_equalIn_agg
attribute [local go_sem] zero_blk build_blk zero_bod zero_pg build_pg build_pg0 zero_imgD loadVar_open4 storeVar_open4

theorem flat_len {s : Nat} : ∀ {L : List (List Value)}, (∀ x ∈ L, x.length = s) → L.flatten.length = L.length * s
  | [], _ => by simp
  | y :: L, h => by
    rw [List.flatten_cons, List.length_append, flat_len (fun x hx => h x (List.mem_cons_of_mem _ hx)), h y List.mem_cons_self, List.length_cons, Nat.succ_mul]
    omega
/-- Cells of the k-th row. -/
theorem row_at {w : World} {g o s : Nat} {L : List (List Value)} (hl : ∀ x ∈ L, x.length = s) (hg : w.rangeAt g o L.flatten) {k : Nat} {x : List Value} (hx : L[k]? = some x) : w.rangeAt g (o + k * s) x := by
  obtain ⟨hk, e⟩ := List.getElem?_eq_some_iff.1 hx
  have e1 : L = L.take k ++ x :: L.drop (k + 1) := by rw [← e, ← List.drop_eq_getElem_cons hk, List.take_append_drop]
  have e2 : L.flatten = (L.take k).flatten ++ (x ++ (L.drop (k + 1)).flatten) := by
    conv => lhs; rw [e1]
    rw [List.flatten_append]
    rfl
  have hl1 := flat_len (L := L.take k) (fun x hx => hl x (List.mem_of_mem_take hx))
  rw [List.length_take, Nat.min_eq_left (Nat.le_of_lt hk)] at hl1
  intro j u hj
  have hj' : j < x.length := (List.getElem?_eq_some_iff.1 hj).1
  have := hg (k * s + j) u (by
    rw [e2, List.getElem?_append_right (by omega), hl1, show k * s + j - k * s = j by omega, List.getElem?_append_left hj']
    exact hj)
  rwa [show o + (k * s + j) = o + k * s + j by omega] at this
theorem blk_at {w : World} {g o : Nat} {L : List (List Int)} (hl : ∀ b ∈ L, b.length = 64) (hg : w.rangeAt g o (L.map u8s).flatten) {k : Nat} {b : List Int} (hx : L[k]? = some b) : w.rangeAt g (o + k * 64) (u8s b) :=
  row_at (s := 64) (fun x hx => by obtain ⟨y, hy, rfl⟩ := List.mem_map.1 hx; rw [u8s_length]; exact hl y hy) hg (by rw [List.getElem?_map, hx]; rfl)

set_option maxRecDepth 100000 in
set_option maxHeartbeats 4000000 in
/-- **store**. -/
theorem rgStore {rb p0 p1 : Nat} {S : RS} {w : World} {f : Nat → Prop} (h : RigR rb p0 p1 S w f) (hfu : S.fuse ≤ 2000000) (hd : 0 ≤ S.done ∧ S.done ≤ 950000) {m : Nat} (hf : S.Few m) (hm : m ≤ 253) {F C P : Nat} (hC1 : 1 ≤ C) (hC : C ≤ 256) (hF : F + C ≤ S.n0) (hn : S.n0 ≤ 4096) (hP : P ≤ 100000) {L : List (List Int)} (hL : ∀ b ∈ L, b.length = 64) (hl : L.length ≤ C) {g o c : Nat} (hg : w.rangeAt g o (L.map u8s).flatten) (hgl : g < w.heap.size) (hgf : ¬ f g) :
    Calls Tryz.prog 110 #[.pointer (some ⟨rb, 0, none⟩), .int .i64 (F : Int), .int .i64 (C : Int), .int .i64 (P : Int), .slice (some ⟨g, o, none⟩) L.length c] w fun e w' => e = .returned (.int .i64 (S.st (wsAt F C P L)).2) ∧ ∃ f', RigR rb p0 p1 (S.st (wsAt F C P L)).1 w' f' ∧ Turn f f' w w' := by
  obtain ⟨T, hT⟩ : ∃ T : Nat → RS × Bool, T = fun k => S.wrs ((wsAt F C P L).take k) := ⟨_, rfl⟩
  have hT' : ∀ k, T k = S.wrs ((wsAt F C P L).take k) := fun k => by rw [hT]
  have hin := wsAt_in (L := L) (P := P) (C := C) (by omega) hF
  have hnd := wsAt_nodup (F := F) (P := P) hl
  have hlen := wsAt_length F C P L
  have HW : Hid (∀ k, (T k).1.Fit ∧ (T k).1.Few 254 ∧ (T k).1.n0 = S.n0) := fun k => by
    have h1 : ∀ x ∈ (wsAt F C P L).take k, x.1 < S.n0 := fun x hx => hin x (List.mem_of_mem_take hx)
    obtain ⟨w1, w2, w3⟩ := RS.wrs_way ((wsAt F C P L).take k) S
    have hll : ((wsAt F C P L).take k).length ≤ 256 := by rw [List.length_take, hlen]; omega
    rw [hT' k]
    exact ⟨RS.fit (by omega) (by omega) (by omega), (RS.wrs_few hf (by omega) h1 (List.Nodup.sublist (List.Sublist.map _ (List.take_sublist k _)) hnd)).mono (by omega), (S.wrs_spec _ h1).1.n0⟩
  have HS : Hid (∀ k b, L[k]? = some b → (T k).2 = true → T (k + 1) = ((T k).1.write 0 ((F + (P + k) % C : Nat) : Int) (u8s b), decide ((T k).1.writeE 0 ((F + (P + k) % C : Nat) : Int) = 0))) := fun k b hb ht => by
    rw [hT'] at ht
    rw [hT', hT', List.take_add_one, wsAt_get?, hb]
    exact RS.wrs_last _ S _ _ ht
  have HF : Hid (∀ k, (T k).2 = false → (S.st (wsAt F C P L)) = ((T k).1, 14)) := fun k hk => by
    rw [hT'] at hk ⊢
    have e := RS.wrs_stop ((wsAt F C P L).take k) ((wsAt F C P L).drop k) S hk
    rw [List.take_append_drop] at e
    unfold RS.st
    rw [e, if_pos hk]
  have HE : Hid ((T L.length).2 = true → (S.st (wsAt F C P L)) = ((T L.length).1.flush 0, (T L.length).1.flushE 0)) := fun hk => by
    rw [hT', ← hlen, List.take_length] at hk ⊢
    unfold RS.st
    rw [if_neg (by rw [hk]; simp)]
  have H0 : Hid (RigR rb p0 p1 (T 0).1 w f ∧ (T 0).2 = true) := by
    refine (?_ : _ ∧ _)
    rw [hT']
    exact ⟨h, rfl⟩
  obtain ⟨res, hres⟩ : ∃ res, S.st (wsAt F C P L) = res := ⟨_, rfl⟩
  rw [hres] at HF HE ⊢
  obtain ⟨n, hnn⟩ : ∃ n, L.length = n := ⟨_, rfl⟩
  rw [hnn] at HE hl ⊢
  have HNN := Lib.hid hnn
  have HL := Lib.hid hL
  have HG := Lib.hid hg
  have HGF := Lib.hid hgf
  have HFN := Lib.hid hF
  have hn255 : n ≤ 256 := by omega
  have hF4 : F ≤ 4096 := by omega
  clear h hT hT' hin hnd hlen hfu hd hf hm hL hg hgf hres hnn
  go_enter Tryz.func110, Tryz.ntmps110
  go_wp2_with fail
  go_loopw [16] (fun i wr => ∃ (k : Nat) (f' : Nat → Prop), k ≤ n ∧ i = .int .i64 (k : Int) ∧ Hid ((T k).2 = true) ∧ Hid (RigR rb p0 p1 (T k).1 wr f') ∧ Hid (Turn f f' w wr)) (fun i _ => n - (intOf i).toNat)
  case atStart => exact ⟨0, f, Nat.zero_le _, rfl, H0.out.2, H0.out.1, Turn.refl _ _⟩
  case round =>
    obtain ⟨k, f1, hk, rfl, HK, HQ, HTU⟩ := hrel
    have hmx : Tryz.prog.follows .mixedOrders = true := by kernel_rfl
    by_cases hlt : k < n
    · have g3 : decide ((k : Int) < (n : Int)) = true := by simpa using hlt
      obtain ⟨b, hb⟩ : ∃ b, L[k]? = some b := ⟨_, List.getElem?_eq_getElem (by rw [HNN.out]; exact hlt)⟩
      have hbl : IsBlk (u8s b) := isBlk_u8s (HL.out b (List.mem_of_getElem? hb))
      have hb64 : (u8s b).length = 64 := by rw [u8s_length]; exact HL.out b (List.mem_of_getElem? hb)
      have hg' := rangeAt_same HG.out (HTU.out.out g hgl HGF.out)
      have LD : (loadVar 60 ⟨g, o + k * 64, none⟩).run Tryz.prog wr = .ok (.agg (u8s b).toArray) wr := load_blk (blk_at HL.out hg' hb) hb64
      obtain ⟨x2, ST2, hr2, hb2⟩ := new_blk wr hbl
      have LB : ∀ z : Ext x2, (loadVar 60 ⟨wr.heap.size, 0, none⟩).run Tryz.prog z.1 = .ok (.agg (u8s b).toArray) z.1 := fun z => (hr2.below z.2).blk hb64
      have HSX := HS.out k b hb HK.out
      obtain ⟨T2, hT2⟩ : ∃ T2, T (k + 1) = T2 := ⟨_, rfl⟩
      rw [hT2] at HSX
      have hway := HW.out k
      have HQ2 := HQ.out.beside hb2
      have HT2 : Hid (Turn f f1 w x2) := HTU.out.trans (Turn.of_below hb2)
      have HBL := Lib.hid hbl
      have HT2' := Lib.hid hT2
      have HSX' := Lib.hid HSX
      have HWR : Hid (∀ z : Ext x2, Calls Tryz.prog 23 #[.pointer (some ⟨rb, 0, none⟩), .int .i64 0, .int .i64 ((F + (P + k) % C : Nat) : Int), .agg (u8s b).toArray] z.1 fun e w' => e = .returned (.int .i64 ((T k).1.writeE 0 ((F + (P + k) % C : Nat) : Int))) ∧ ∃ f', RigR rb p0 p1 T2.1 w' f' ∧ Turn f1 f' z.1 w') := fun z => by
        have := (HQ2.beside z.2).write hway.1 (hway.2.1.mono (by omega)) 0 ((F + (P + k) % C : Nat) : Int) hbl
        rw [HSX]
        exact this
      have HSEC : Hid (∀ z : World, Calls Tryz.prog 123 #[.int .i64 (F : Int), .int .i64 (C : Int), .int .i64 ((P : Int) + (k : Int))] z fun e w' => e = .returned (.int .i64 ((F + (P + k) % C : Nat) : Int)) ∧ w' = z) := fun z => by
        have := rgSector (F := F) (C := C) (P := P + k) hC1 hC hF4 (by omega) z
        rwa [Int.natCast_add] at this
      have hE : (T k).1.writeE 0 ((F + (P + k) % C : Nat) : Int) = 0 ∨ (T k).1.writeE 0 ((F + (P + k) % C : Nat) : Int) = 14 := by
        have hi : F + (P + k) % C < (T k).1.n0 := by
          rw [hway.2.2]
          have := Nat.mod_lt (P + k) (show 0 < C by omega)
          have := HFN.out
          omega
        rcases ((T k).1.write0 hi (u8s b)).2 with ⟨_, e, _⟩ | ⟨_, e, _⟩
        · exact .inl e
        · exact .inr e
      obtain ⟨we, hwe⟩ : ∃ we, (T k).1.writeE 0 ((F + (P + k) % C : Nat) : Int) = we := ⟨_, rfl⟩
      rw [hwe] at HWR hE
      have hsx2 : T2.2 = decide (we = 0) := by rw [HSX, hwe]
      have HSX2 := Lib.hid hsx2
      obtain ⟨i, hi⟩ : ∃ i, F + (P + k) % C = i := ⟨_, rfl⟩
      rw [hi] at HWR HSEC
      clear hb hbl hb64 hg' hr2 HSX hway HQ2 hb2 hT2 HSX' hwe hsx2 hi
      go_wp2_with fail
      refine region_plan (fun x => ∃ y : Ext x2, x = y.1) 8 (.takes [0, 1, 2, 3, 4, 5, 7] (.one 6 .leaf)) hmx (by kernel_rfl) (by intro c x v a w h; cases x <;> exact h) ⟨⟨x2.drew, (Below.refl _ x2).drew⟩, rfl⟩ ?_
      repeat (rw [wpPlan_takes_cons]; simp only [nth_zero, nth_succ]; go_big_quiet_step (fail); refine wpQuiet_nil ?_)
      rw [wpPlan_takes_nil, wpPlan_one]
      simp only [nth_zero, nth_succ]
      clear LB
      obtain ⟨X, hX⟩ : ∃ X, x2.drew = X := ⟨_, rfl⟩
      have hbX : Below x2.heap.size x2 X := by rw [← hX]; exact (Below.refl _ x2).drew
      have HWX : Hid (Calls Tryz.prog 23 #[.pointer (some ⟨rb, 0, none⟩), .int .i64 0, .int .i64 (i : Int), .agg (u8s b).toArray] X fun e w' => e = .returned (.int .i64 we) ∧ ∃ f', RigR rb p0 p1 T2.1 w' f' ∧ Turn f1 f' X w') := HWR.out ⟨X, hbX⟩
      have HT3 : Hid (Turn f f1 w X) := HT2.out.trans (Turn.of_below hbX)
      have HBX := Lib.hid hbX
      rw [hX]
      clear hX hbX HWR HT2
      go_wp2_with fail
      go_at_call 123
      refine (HSEC.out _).mono ?_
      rintro e z ⟨rfl, hz⟩
      obtain rfl := hz.symm
      clear HSEC
      go_wp2_with fail
      refine planPost_mk ⟨⟨X, HBX.out⟩, rfl⟩ ?_
      rw [wpPlan_leaf]
      simp only [List.drop_succ_cons, List.drop_zero]
      go_wp2_with fail
      go_at_call 23
      refine HWX.out.mono ?_
      rintro e x5 ⟨rfl, f5, g1, g2⟩
      have Q5 := Lib.hid g1
      have T5 := Lib.hid (HT3.out.trans g2)
      clear g1 g2 HWX HT3
      by_cases h0 : we = 0
      · subst h0
        have HK2 : Hid ((T (k + 1)).2 = true) := by show _ = _; rw [HT2'.out, HSX2.out]; rfl
        have Q6 : Hid (RigR rb p0 p1 (T (k + 1)).1 x5 f5) := by show RigR _ _ _ _ _ _; rw [HT2'.out]; exact Q5.out
        go_wp2_with fail
        go_roundw
        case rel => exact ⟨k + 1, f5, hlt, by go_num, HK2, Q6, T5⟩
        case measure => simp [intOf]; omega
      · obtain rfl : we = 14 := hE.resolve_left h0
        have HR : Hid (res = (T2.1, 14)) := by
          show _ = _
          rw [← HT2'.out]
          exact HF.out (k + 1) (by rw [HT2'.out, HSX2.out]; rfl)
        go_wp2_with fail
        go_ret
        rw [HR.out]
        exact ⟨rfl, f5, Q5.out, T5.out⟩
    · have g3 : decide ((k : Int) < (n : Int)) = false := by simpa using hlt
      obtain rfl : k = n := by omega
      have hway := HW.out k
      have HFL := Lib.hid (HQ.out.flush hway.1 0)
      have HR := Lib.hid (HE.out HK.out)
      clear hway
      go_wp2_with fail
      go_at_call 103
      refine HFL.out.mono ?_
      rintro e x5 ⟨rfl, f5, g1, g2⟩
      have Q5 := Lib.hid g1
      have T5 := Lib.hid (HTU.out.trans g2)
      clear g1 g2 HFL
      go_wp2_with fail
      go_ret
      rw [HR.out]
      exact ⟨rfl, f5, Q5.out, T5.out⟩
end Go.Proofs.YtbdfllamhcodjaaGreat

/- The developers' ring: encoded. -/
namespace Go.Proofs.YtbdfllamhcodjaaGreat
open Go.RowKit Go.Shelf
set_option linter.unusedVariables false

/-- Whatever is no block, no body, no sector, no image and no log of the developers' is read and written cell by cell. -/
theorem loadVar_openD (t : TypeId) (h : t ≠ 60 ∧ t ≠ 189 ∧ t ≠ 112 ∧ t ≠ 133 ∧ t ≠ 157) (a : Addr) : loadVar t a = (do if ← isAgg t then pure (.agg (← loadCells a (← sizeOf t))) else load a) := rfl
theorem storeVar_openD (t : TypeId) (h : t ≠ 60 ∧ t ≠ 189 ∧ t ≠ 133 ∧ t ≠ 157) (a : Addr) (v : Value) : storeVar t a v = (do
    if v.cells.size ≠ (← sizeOf t) then stuck "storeVar: the value has not the size of the variable"
    storeCells a v.cells.toList) := rfl
attribute [-simp] Tryz.isAgg60 Tryz.zeroValue60 Tryz.isAgg112 Tryz.zeroValue112 Tryz.isAgg189 Tryz.zeroValue189 Tryz.isAgg133 Tryz.zeroValue133
attribute [-go_sem] loadVar storeVar run_equalIn_agg
attribute [local go_sem] zero_blk build_blk zero_bod zero_pg build_pg build_pg0 zero_imgD loadVar_openD storeVar_openD

set_option maxRecDepth 100000 in
theorem build_pg4 (m s i : Int) (c : List Value) (hc : c.length = 48) (w : World) :
    (Instr.build 189 #[(0, .int .u8 m), (1, .int .u32 s), (2, .int .i64 i), (3, .agg c.toArray)]).run Tryz.prog w = .ok (.agg (Value.int .u8 m :: .int .u32 s :: .int .i64 i :: c).toArray) w := by
  refine run_build w _ _ _ ?_
  have e : Instr.fill places4 zcs.toArray [(0, .int .u8 m), (1, .int .u32 s), (2, .int .i64 i), (3, .agg c.toArray)] = some (Value.int .u8 m :: .int .u32 s :: .int .i64 i :: c).toArray := by
    have h3 : Instr.fill places4 zcs.toArray [(0, .int .u8 m), (1, .int .u32 s), (2, .int .i64 i), (3, .agg c.toArray)] = Instr.fill places4 (((zcs.set 0 (.int .u8 m)).set 1 (.int .u32 s)).set 2 (.int .i64 i)).toArray [(3, .agg c.toArray)] := rfl
    have hz : (((zcs.set 0 (.int .u8 m)).set 1 (.int .u32 s)).set 2 (.int .i64 i)).toArray.size = 51 := by simp [zcs, u8s]
    rw [h3]
    have p3 : places4 3 = some (3, 48) := rfl
    simp only [Instr.fill, p3, Value.cells]
    refine (if_neg ?_).trans ?_
    · intro h
      rcases Bool.or_eq_true_iff.1 h with h | h
      · exact (of_decide_eq_true h) (by simpa using hc)
      · have h' : 3 + c.toArray.size > (((zcs.set 0 (.int .u8 m)).set 1 (.int .u32 s)).set 2 (.int .i64 i)).toArray.size := of_decide_eq_true h
        rw [hz, List.size_toArray, hc] at h'
        omega
    congr 1
    rw [← Array.foldl_toList, Array.toList_zipIdx, laid_from]
    apply Array.ext_getElem?
    intro j
    rw [laid_get c 3 _ j (by rw [hz, hc]; omega)]
    match j with
    | 0 => rfl
    | 1 => rfl
    | 2 => rfl
    | j + 3 =>
      by_cases hj : j < 48
      · rw [if_pos (by omega)]; simp
      · rw [if_neg (by omega), Array.getElem?_eq_none (by omega)]; simp; omega
  exact e
set_option maxRecDepth 100000 in
theorem new_imgD (x : World) (i : Img) (hi : i.body.length = 48) : ∃ y, (storeVar 133 ⟨x.heap.size, 0, none⟩ (.agg i.cells.toArray)).run Tryz.prog (x.alloc (.cells zim.toArray 133)) = .ok () y ∧ RowC y x.heap.size 133 i.cells ∧ Below x.heap.size x y :=
  ⟨_, store_new_imgD zim_size (Img.cells_length hi) (Img.cells_one i), RowC.new x _ _, below_new x _⟩
set_option maxRecDepth 100000 in
theorem img_bodC {x : World} {B : Nat} {i : Img} {t : TypeId} (h : RowC x B t i.cells) (hi : i.body.length = 48) : (loadVar 112 ⟨B, 1, none⟩).run Tryz.prog x = .ok (.agg (u8s i.body).toArray) x :=
  load_bod (row_part (a := [.int .i64 i.index]) (b := u8s i.body) h) (by rw [u8s_length, hi])
/-- The blocks of images. -/
def imgB (seq : Int) (t : List Img) : List (List Value) := t.map fun x => u8s (imgSct seq x).bytes
theorem imgB_length (seq : Int) (t : List Img) : (imgB seq t).length = t.length := by simp [imgB]
theorem txnB_u8s (seq : Int) (t : List Img) : (txnB seq t).map u8s = imgB seq t ++ [u8s (comSct seq t.length).bytes] := by
  unfold txnB imgB
  rw [List.map_append, List.map_map]
  rfl

set_option maxRecDepth 100000 in
set_option maxHeartbeats 4000000 in
/-- **encoded**. -/
theorem rgEncoded {w : World} {t : List Img} (hn : t.length ≤ 65535) (hok : ∀ x ∈ t, x.Ok) {seq : Int} (hs : IsSeq seq) {g c : Nat} (hg : w.rangeAt g 0 (imgR t).flatten) (hgl : g < w.heap.size) :
    Calls Tryz.prog 109 #[.int .u32 seq, .slice (some ⟨g, 0, none⟩) t.length c] w fun e w' =>
      ((∀ x ∈ t, x.fits) → ∃ v, e = .returned (.tuple #[v, .bool true]) ∧ w'.ownsRow w.heap.size 60 64 v ((txnB seq t).map u8s).length ((txnB seq t).map u8s).flatten) ∧
      ((¬ ∀ x ∈ t, x.fits) → e = .returned (.tuple #[.slice none 0 0, .bool false])) ∧ Below w.heap.size w w' := by
  obtain ⟨n, hnn⟩ : ∃ n, t.length = n := ⟨_, rfl⟩
  have HNN := Lib.hid hnn
  have HOK := Lib.hid hok
  have HSQ := Lib.hid hs
  have HG := Lib.hid hg
  rw [hnn] at hn ⊢
  clear hok hs hg hnn
  go_enter Tryz.func109, Tryz.ntmps109
  go_wp2_with fail
  go_loopw [4, 14] (fun l i wr => ∃ k : Nat, k ≤ n ∧ i = .int .i64 (k : Int) ∧ Hid (wr.ownsRow w.heap.size 60 64 l (imgB seq (t.take k)).length (imgB seq (t.take k)).flatten) ∧ Hid (Below w.heap.size w wr) ∧ Hid (∀ j x, j < k → t[j]? = some x → x.fits)) (fun _ i _ => n - (intOf i).toNat)
  case atStart => exact ⟨0, Nat.zero_le _, rfl, World.ownsRow_nil _ _ _ _, Below.refl _ _, fun j x h => absurd h (Nat.not_lt_zero _)⟩
  case round =>
    obtain ⟨k, hk, rfl, HO, HB, HK⟩ := hrel
    by_cases hlt : k < n
    · have g3 : decide ((k : Int) < (n : Int)) = true := by simpa using hlt
      obtain ⟨x, hx⟩ : ∃ x, t[k]? = some x := ⟨_, List.getElem?_eq_getElem (by rw [HNN.out]; exact hlt)⟩
      have hxo := HOK.out x (List.mem_of_getElem? hx)
      have hg' := range_below HB.out hgl HG.out
      have L0 : (loadVar 133 ⟨g, k * 49, none⟩).run Tryz.prog wr = .ok (.agg x.cells.toArray) wr := load_imgD (img_cells hg' HOK.out hx) (Img.cells_length hxo.len)
      obtain ⟨x1, ST1, hr1, hb1⟩ := new_imgD wr x hxo.len
      have B1 : Hid (Below w.heap.size w x1) := HB.out.trans (hb1.mono HB.out.size)
      have O1 := Lib.hid (own_below HO.out hb1)
      have c1 : x1.cell? ⟨wr.heap.size, 0, none⟩ = some (.int .i64 x.index) := hr1.cell 0 _ rfl
      have L1 := img_bodC hr1 hxo.len
      have BI : Hid ((Instr.build 189 #[(0, .int .u8 73), (1, .int .u32 seq), (2, .int .i64 x.index), (3, .agg (u8s x.body).toArray)]).run Tryz.prog x1 = .ok (.agg (imgSct seq x).cells.toArray) x1) := build_pg4 73 seq x.index (u8s x.body) (by rw [u8s_length]; exact hxo.len) x1
      have HX := Lib.hid hx
      have HXO := Lib.hid hxo
      have hP : (imgSct seq x).Ok := imgSct_ok HSQ.out hxo
      have HP := Lib.hid hP
      clear hx hxo hg' hr1 hb1 hP
      go_wp2_with (first | ((with_reducible refine gate_struct 189 ?_); refine wpList_struct_run _ _ rfl rfl [(0, .int .u8 73), (1, .int .u32 seq), (2, .int .i64 x.index), (3, .agg (u8s x.body).toArray)] _ rfl BI.out ?_))
      clear L0 ST1 c1 L1 BI
      go_at_call 135
      refine (pgEncode (imgSct seq x) HP.out x1).mono ?_
      rintro e x2 ⟨rfl, hb⟩
      obtain ⟨x3, ST3, hr3, hb3⟩ := new_blk x2 (isBlk_code HP.out)
      have b3 : Below x1.heap.size x1 x3 := hb.trans (hb3.mono hb.size)
      have B3 : Hid (Below w.heap.size w x3) := B1.out.trans (b3.mono B1.out.size)
      have O3 := Lib.hid (own_below O1.out b3)
      have L3 : (loadVar 60 ⟨x2.heap.size, 0, none⟩).run Tryz.prog x3 = .ok (.agg (imgSct seq x).code.toArray) x3 := hr3.blk (isBlk_code HP.out).length
      clear hb hr3 hb3 b3 O1 B1
      by_cases hft : x.fits
      · have eE : (imgSct seq x).codeE = 0 := by unfold Sct.codeE; rw [if_pos (imgSct_fits hft)]
        have eC : (imgSct seq x).code = u8s (imgSct seq x).bytes := by unfold Sct.code; rw [if_pos (imgSct_fits hft)]
        rw [eE]
        rw [eC] at ST3 L3 ⊢
        have hbl : IsBlk (u8s (imgSct seq x).bytes) := isBlk_u8s (Sct.bytes_length HP.out)
        obtain ⟨x4, hx4⟩ : ∃ y, x3.alloc (.cells (u8s (imgSct seq x).bytes).toArray 60) = y := ⟨_, rfl⟩
        have SB : Hid ((Instr.buildSlice 69 1 #[(0, .agg (u8s (imgSct seq x).bytes).toArray)]).run Tryz.prog x3 = .ok (.slice (some ⟨x3.heap.size, 0, none⟩) 1 1) x4) := by show _ = _; rw [← hx4]; exact slice_one x3 _ hbl.length
        have b4 : Below x3.heap.size x3 x4 := by rw [← hx4]; exact below_new x3 _
        have B4 : Below w.heap.size w x4 := B3.out.trans (b4.mono B3.out.size)
        have O4 := own_below O3.out b4
        obtain ⟨v6, x6, r6, o6, g6, -⟩ := append_blk w.heap.size x4 u4 (imgB seq (t.take k)) (u8s (imgSct seq x).bytes) x3.heap.size O4 hbl (row_range (t := 60) (by rw [← hx4]; exact heap_alloc_new x3 _)) (by rw [imgB_length, List.length_take]; omega) B4.size
        have R6 := Lib.hid r6
        have B6 : Hid (Below w.heap.size w x6) := B4.grown g6 B4.size (fun j e => (O4.lt j e).1)
        have O6 : Hid (x6.ownsRow w.heap.size 60 64 v6 (imgB seq (t.take (k + 1))).length (imgB seq (t.take (k + 1))).flatten) := by
          have e : imgB seq (t.take (k + 1)) = imgB seq (t.take k) ++ [u8s (imgSct seq x).bytes] := by
            rw [List.take_add_one, HX.out]
            unfold imgB
            rw [List.map_append]
            rfl
          show World.ownsRow _ _ _ _ _ _ _
          rw [e]
          exact o6
        have HK2 : Hid (∀ j z, j < k + 1 → t[j]? = some z → z.fits) := fun j z hj hz => by
          rcases Nat.lt_or_ge j k with h | h
          · exact HK.out j z h hz
          · obtain rfl : j = k := by omega
            rw [HX.out] at hz
            cases hz
            exact hft
        clear eE eC hbl hx4 b4 B4 O4 r6 o6 g6 hft
        go_wp2_with (first | ((with_reducible refine gate_build ?_); refine wpList_build_run _ _ _ rfl rfl [(0, .agg (u8s (imgSct seq x).bytes).toArray)] _ rfl SB.out ?_) | (at_builtin; refine wpList_append_run (.tmp 30) (.tmp 32) 69 rfl rfl _ _ _ rfl rfl R6.out ?_))
        go_roundw
        case rel => exact ⟨k + 1, hlt, by go_num, O6, B6, HK2⟩
        case measure => simp [intOf]; omega
      · have eE : (imgSct seq x).codeE = 11 := by unfold Sct.codeE; rw [if_neg (fun h => hft (of_decide_eq_true h).2)]
        have HBAD : Hid (¬ ∀ x ∈ t, x.fits) := fun h => hft (h x (List.mem_of_getElem? HX.out))
        rw [eE]
        clear eE hft
        go_wp2_with fail
        go_ret2
        exact ⟨fun h => absurd h HBAD.out, fun _ => rfl, B3.out⟩
    · have g3 : decide ((k : Int) < (n : Int)) = false := by simpa using hlt
      obtain rfl : k = n := by omega
      have HFT : Hid (∀ x ∈ t, x.fits) := fun x hx => by
        obtain ⟨j, hj⟩ := List.mem_iff_getElem?.1 hx
        exact HK.out j x (by have := (List.getElem?_eq_some_iff.1 hj).1; rw [HNN.out] at this; omega) hj
      have HO' : Hid (wr.ownsRow w.heap.size 60 64 u4 (imgB seq t).length (imgB seq t).flatten) := by
        have := HO.out
        rw [← HNN.out, List.take_length] at this
        exact this
      have hP : (comSct seq k).Ok := comSct_ok HSQ.out
      have hF : (comSct seq k).fits = true := comSct_fits hn
      have HP := Lib.hid hP
      have HF := Lib.hid hF
      clear hP hF HK HO
      go_wp2_with fail
      go_at_call 125
      refine (rgCommit seq k wr).mono ?_
      rintro e x1 ⟨rfl, hb1⟩
      have B1 : Hid (Below w.heap.size w x1) := HB.out.trans (hb1.mono HB.out.size)
      have O1 := Lib.hid (own_below HO'.out hb1)
      clear hb1
      go_wp2_with fail
      go_at_call 135
      refine (pgEncode (comSct seq k) HP.out x1).mono ?_
      rintro e x2 ⟨rfl, hb⟩
      have eE : (comSct seq k).codeE = 0 := by unfold Sct.codeE; rw [if_pos HF.out]
      have eC : (comSct seq k).code = u8s (comSct seq k).bytes := by unfold Sct.code; rw [if_pos HF.out]
      rw [eE, eC]
      have hbl : IsBlk (u8s (comSct seq k).bytes) := isBlk_u8s (Sct.bytes_length HP.out)
      obtain ⟨x3, ST3, hr3, hb3⟩ := new_blk x2 hbl
      have b3 : Below x1.heap.size x1 x3 := hb.trans (hb3.mono hb.size)
      have B3 : Below w.heap.size w x3 := B1.out.trans (b3.mono B1.out.size)
      have O3 := own_below O1.out b3
      have L3 : (loadVar 60 ⟨x2.heap.size, 0, none⟩).run Tryz.prog x3 = .ok (.agg (u8s (comSct seq k).bytes).toArray) x3 := hr3.blk hbl.length
      obtain ⟨x4, hx4⟩ : ∃ y, x3.alloc (.cells (u8s (comSct seq k).bytes).toArray 60) = y := ⟨_, rfl⟩
      have SB : Hid ((Instr.buildSlice 69 1 #[(0, .agg (u8s (comSct seq k).bytes).toArray)]).run Tryz.prog x3 = .ok (.slice (some ⟨x3.heap.size, 0, none⟩) 1 1) x4) := by show _ = _; rw [← hx4]; exact slice_one x3 _ hbl.length
      have b4 : Below x3.heap.size x3 x4 := by rw [← hx4]; exact below_new x3 _
      have B4 : Below w.heap.size w x4 := B3.trans (b4.mono B3.size)
      have O4 := own_below O3 b4
      obtain ⟨v6, x6, r6, o6, g6, -⟩ := append_blk w.heap.size x4 u4 (imgB seq t) (u8s (comSct seq k).bytes) x3.heap.size O4 hbl (row_range (t := 60) (by rw [← hx4]; exact heap_alloc_new x3 _)) (by rw [imgB_length, HNN.out]; omega) B4.size
      have R6 := Lib.hid r6
      have B6 : Hid (Below w.heap.size w x6) := B4.grown g6 B4.size (fun j e => (O4.lt j e).1)
      have O6 : Hid (x6.ownsRow w.heap.size 60 64 v6 ((txnB seq t).map u8s).length ((txnB seq t).map u8s).flatten) := by
        show World.ownsRow _ _ _ _ _ _ _
        rw [txnB_u8s, HNN.out]
        exact o6
      clear eE eC hbl hx4 b4 B4 O4 r6 o6 g6 hb hr3 hb3 b3 B3 O3 O1 B1
      go_wp2_with (first | ((with_reducible refine gate_build ?_); refine wpList_build_run _ _ _ rfl rfl [(0, .agg (u8s (comSct seq k).bytes).toArray)] _ rfl SB.out ?_) | (at_builtin; refine wpList_append_run (.tmp 43) (.tmp 45) 69 rfl rfl _ _ _ rfl rfl R6.out ?_))
      go_ret2
      exact ⟨fun _ => ⟨_, rfl, O6.out⟩, fun h => absurd HFT.out h, B6.out⟩
end Go.Proofs.YtbdfllamhcodjaaGreat

/- The developers' ring: Append. -/
namespace Go.Proofs.YtbdfllamhcodjaaGreat
open Go.RowKit Go.Shelf
set_option linter.unusedVariables false
attribute [-simp] Tryz.isAgg60 Tryz.zeroValue60 Tryz.isAgg112 Tryz.zeroValue112 Tryz.isAgg189 Tryz.zeroValue189 Tryz.isAgg133 Tryz.zeroValue133
attribute [-go_sem] loadVar storeVar run_equalIn_agg
attribute [local go_sem] zero_blk build_blk zero_bod zero_pg build_pg build_pg0 zero_imgD loadVar_openD storeVar_openD

set_option maxRecDepth 100000 in
theorem elem_blks : Tryz.prog.underlying 69 = some (.slice (Tryz.prog.elem 69)) := by kernel_rfl
set_option maxRecDepth 100000 in
theorem sizeOf_blks (W : World) : (sizeOf (Tryz.prog.elem 69)).run Tryz.prog W = .ok 64 W := by kernel_rfl
set_option maxRecDepth 100000 in
theorem cut_blk_hi (W : World) {g o n c K : Nat} (hK : K ≤ n) (hc : n ≤ c) : (Instr.sliceAt 69 (.slice (some ⟨g, o, none⟩) n c) none (some (.int .i64 (K : Int))) none).run Tryz.prog W = .ok (.slice (some ⟨g, o, none⟩) K c) W := by
  rw [run_sliceAt_slice (h := elem_blks), run_slice_h (ht := elem_blks) (kh := .i64) (h0 := by omega) (h2 := by omega), sizeOf_blks]
  simp only [Result.andThen, sliced, Int.toNat_natCast, Nat.zero_mul, add_none, ite_self, Nat.sub_zero]
set_option maxRecDepth 100000 in
theorem cut_blk_lo (W : World) {g o n c K : Nat} (hK : K < n) (hc : n ≤ c) : (Instr.sliceAt 69 (.slice (some ⟨g, o, none⟩) n c) (some (.int .i64 (K : Int))) none none).run Tryz.prog W = .ok (.slice (some ⟨g, o + K * 64, none⟩) (n - K) (c - K)) W := by
  rw [run_sliceAt_slice (h := elem_blks), run_slice_l (ht := elem_blks) (kl := .i64) (h0 := by omega) (h1 := by omega), sizeOf_blks]
  simp only [Result.andThen, sliced, Int.toNat_natCast]
  rw [if_neg (by omega)]
  simp [Addr.add]
theorem own_row {x : World} {N e sz n : Nat} {v : Value} {xs : List Value} (h : x.ownsRow N e sz v n xs) (hn : 0 < n) : ∃ g c, v = .slice (some ⟨g, 0, none⟩) n c ∧ N ≤ g ∧ n ≤ c ∧ g < x.heap.size ∧ x.rangeAt g 0 xs := by
  rcases h.2 with ⟨rfl, rfl⟩ | ⟨g, cap, cur, rfl, h1, hg, h2, _⟩
  · exact absurd hn (by omega)
  · refine ⟨g, cap, rfl, h1, h2, (Array.getElem?_eq_some_iff.1 hg).1, fun j u hj => ?_⟩
    have := h.cells (g := g) rfl j u hj
    rwa [Addr.add_mid] at this
theorem flat_take {L : List (List Value)} {n : Nat} (hn : n ≤ L.length) : ∃ r, L.flatten = (L.take n).flatten ++ r := ⟨(L.drop n).flatten, by rw [← List.flatten_append, List.take_append_drop]⟩
theorem range_take {w : World} {g o : Nat} {a b : List Value} (h : w.rangeAt g o (a ++ b)) : w.rangeAt g o a := fun j u hj => h j u (by rw [List.getElem?_append_left (List.getElem?_eq_some_iff.1 hj).1]; exact hj)
theorem range_drop {w : World} {g o k : Nat} {a b : List Value} (h : w.rangeAt g o (a ++ b)) (hk : a.length = k) : w.rangeAt g (o + k) b := fun j u hj => by
  have := h (k + j) u (by rw [List.getElem?_append_right (by omega), hk, Nat.add_sub_cancel_left]; exact hj)
  rwa [← Nat.add_assoc] at this

section
set_option maxRecDepth 100000
set_option maxHeartbeats 4000000
set_option maxRecDepth 100000 in
/-- .. of no such ring. -/
theorem rgAppend_no0 {v : Value} {n0 : Nat} {w : World} (hn : n0 ≤ 4096) (HL : ∀ x, Below w.heap.size w x → Calls Tryz.prog 94 #[v, .int .i64 0] x fun e w' => e = .returned (.int .i64 (n0 : Int)) ∧ Below x.heap.size x w') {frm count at0 seq : Int} (hm : mayR n0 frm count at0 = false) {a : Option Addr} {n c : Nat} :
    Calls Tryz.prog 66 #[v, .int .i64 frm, .int .i64 count, .int .i64 at0, .int .u32 seq, .slice a n c] w fun e w' => e = .returned (.tuple #[.int .i64 0, .int .i64 1]) ∧ Below w.heap.size w w' := by
  have HF := Lib.hid (rgFits hn frm count at0 w (HL w (Below.refl _ _)))
  rw [hm] at HF
  clear HL hm hn
  go_enter Tryz.func66, Tryz.ntmps66
  go_wp2_with fail
  go_at_call 108
  refine HF.out.mono ?_
  rintro e x ⟨rfl, hb⟩
  have HB := Lib.hid hb
  clear hb
  go_wp2_with fail
  go_ret2
  exact ⟨rfl, HB.out⟩
set_option maxRecDepth 100000 in
theorem rgAppend_no {rb p0 p1 : Nat} {S : RS} {w : World} {f : Nat → Prop} (h : RigR rb p0 p1 S w f) (hn : S.n0 ≤ 4096) {frm count at0 seq : Int} (hm : mayR S.n0 frm count at0 = false) {a : Option Addr} {n c : Nat} :
    Calls Tryz.prog 66 #[.pointer (some ⟨rb, 0, none⟩), .int .i64 frm, .int .i64 count, .int .i64 at0, .int .u32 seq, .slice a n c] w fun e w' => e = .returned (.tuple #[.int .i64 0, .int .i64 1]) ∧ Below w.heap.size w w' :=
  rgAppend_no0 hn (fun x hx => (h.beside hx).len 0) hm
set_option maxRecDepth 100000 in
theorem rgAppend_nil (frm count at0 seq : Int) (w : World) {a : Option Addr} {n c : Nat} :
    Calls Tryz.prog 66 #[.pointer none, .int .i64 frm, .int .i64 count, .int .i64 at0, .int .u32 seq, .slice a n c] w fun e w' => e = .returned (.tuple #[.int .i64 0, .int .i64 1]) ∧ Below w.heap.size w w' :=
  rgAppend_no0 (n0 := 0) (by omega) (fun x _ => nil_len 0 x) (by unfold mayR; exact decide_eq_false (by omega))
set_option maxRecDepth 100000 in
theorem rgFits_yes {rb p0 p1 : Nat} {S : RS} {w : World} {f : Nat → Prop} (h : RigR rb p0 p1 S w f) (hn : S.n0 ≤ 4096) {F C A : Nat} (hC2 : 2 ≤ C) (hC : C ≤ 256) (hF : F + C ≤ S.n0) (hA : A < C) :
    Calls Tryz.prog 108 #[.pointer (some ⟨rb, 0, none⟩), .int .i64 (F : Int), .int .i64 (C : Int), .int .i64 (A : Int)] w fun e w' => e = .returned (.bool true) ∧ Below w.heap.size w w' := by
  have := rgFits hn F C A w (h.len 0)
  rw [show mayR S.n0 F C A = true by unfold mayR; simp; omega] at this
  exact this
set_option maxRecDepth 100000 in
/-- .. of no pages, or too many. -/
theorem rgAppend_long {rb p0 p1 : Nat} {S : RS} {w : World} {f : Nat → Prop} (h : RigR rb p0 p1 S w f) (hn : S.n0 ≤ 4096) {F C A : Nat} (hC2 : 2 ≤ C) (hC : C ≤ 256) (hF : F + C ≤ S.n0) (hA : A < C) {seq : Int} {a : Option Addr} {n c : Nat} (hl : n < 1 ∨ C < n + 1) (hnb : n ≤ 1000000) :
    Calls Tryz.prog 66 #[.pointer (some ⟨rb, 0, none⟩), .int .i64 (F : Int), .int .i64 (C : Int), .int .i64 (A : Int), .int .u32 seq, .slice a n c] w fun e w' => e = .returned (.tuple #[.int .i64 0, .int .i64 2]) ∧ Below w.heap.size w w' := by
  have HF := Lib.hid (rgFits_yes h hn hC2 hC hF hA)
  clear h hF hn hA
  by_cases h1 : n < 1
  · obtain rfl : n = 0 := by omega
    clear h1 hl hnb
    go_enter Tryz.func66, Tryz.ntmps66
    go_wp2_with fail
    go_at_call 108
    refine HF.out.mono ?_
    rintro e x ⟨rfl, hb⟩
    have HB := Lib.hid hb
    clear hb
    go_wp2_with fail
    go_ret2
    exact ⟨rfl, HB.out⟩
  · have g1 : ((n : Int) == 0) = false := by simp; omega
    have g2 : decide ((C : Int) - 1 < (n : Int)) = true := by simp; omega
    have g2' : decide ((n : Int) > (C : Int) - 1) = true := g2
    go_enter Tryz.func66, Tryz.ntmps66
    go_wp2_with fail
    go_at_call 108
    refine HF.out.mono ?_
    rintro e x ⟨rfl, hb⟩
    have HB := Lib.hid hb
    clear hb
    go_wp2_with fail
    go_ret2
    exact ⟨rfl, HB.out⟩
set_option maxRecDepth 100000 in
/-- .. of a page that may not be. -/
theorem rgAppend_bad {rb p0 p1 : Nat} {S : RS} {w : World} {f : Nat → Prop} (h : RigR rb p0 p1 S w f) (hn : S.n0 ≤ 4096) {F C A : Nat} (hC2 : 2 ≤ C) (hC : C ≤ 256) (hF : F + C ≤ S.n0) (hA : A < C) {seq : Int} (hs : IsSeq seq) {t : List Img} (n1 : 1 ≤ t.length) (n2 : t.length + 1 ≤ C) (hok : ∀ x ∈ t, x.Ok) (hbad : ¬ ∀ x ∈ t, x.fits) {g c : Nat} (hg : w.rangeAt g 0 (imgR t).flatten) (hgl : g < w.heap.size) :
    Calls Tryz.prog 66 #[.pointer (some ⟨rb, 0, none⟩), .int .i64 (F : Int), .int .i64 (C : Int), .int .i64 (A : Int), .int .u32 seq, .slice (some ⟨g, 0, none⟩) t.length c] w fun e w' => e = .returned (.tuple #[.int .i64 0, .int .i64 1]) ∧ Below w.heap.size w w' := by
  have HF := Lib.hid (rgFits_yes h hn hC2 hC hF hA)
  have HE : Hid (∀ x, Below w.heap.size w x → Calls Tryz.prog 109 #[.int .u32 seq, .slice (some ⟨g, 0, none⟩) t.length c] x fun e w' => e = .returned (.tuple #[.slice none 0 0, .bool false]) ∧ Below x.heap.size x w') := fun x hx =>
    (rgEncoded (by omega) hok hs (range_below hx hgl hg) (Nat.lt_of_lt_of_le hgl hx.size)).mono fun e w' hh => ⟨hh.2.1 hbad, hh.2.2⟩
  obtain ⟨n, hnn⟩ : ∃ n, t.length = n := ⟨_, rfl⟩
  rw [hnn] at n1 n2 HE ⊢
  have g1 : ((n : Int) == 0) = false := by simp; omega
  have g2 : decide ((C : Int) - 1 < (n : Int)) = false := by simp; omega
  have g2' : decide ((n : Int) > (C : Int) - 1) = false := g2
  clear h hF hn hA hok hbad hg hgl hnn
  go_enter Tryz.func66, Tryz.ntmps66
  go_wp2_with fail
  go_at_call 108
  refine HF.out.mono ?_
  rintro e x ⟨rfl, hb⟩
  have HB := Lib.hid hb
  have HE2 := Lib.hid (HE.out x hb)
  clear hb
  go_wp2_with fail
  go_at_call 109
  refine HE2.out.mono ?_
  rintro e y ⟨rfl, hb⟩
  have HB2 : Hid (Below w.heap.size w y) := HB.out.trans (hb.mono HB.out.size)
  clear hb
  go_wp2_with fail
  go_ret2
  exact ⟨rfl, HB2.out⟩
end

set_option maxRecDepth 100000 in
set_option maxHeartbeats 4000000 in
/-- **Append**. -/
theorem rgAppend {rb p0 p1 : Nat} {S : RS} {w : World} {f : Nat → Prop} (h : RigR rb p0 p1 S w f) (hfu : S.fuse ≤ 1000000) (hd0 : 0 ≤ S.done) (hd1 : S.done ≤ 900000) (hf : S.Few 250) {F C A : Nat} (hC2 : 2 ≤ C) (hC : C ≤ 256) (hF : F + C ≤ S.n0) (hA : A < C) (hn : S.n0 ≤ 4096) {seq : Int} (hs : IsSeq seq)
    {t : List Img} (ht : TxnOk C t) {g c : Nat} (hg : w.rangeAt g 0 (imgR t).flatten) (hgl : g < w.heap.size) (hgf : ¬ f g) :
    Calls Tryz.prog 66 #[.pointer (some ⟨rb, 0, none⟩), .int .i64 (F : Int), .int .i64 (C : Int), .int .i64 (A : Int), .int .u32 seq, .slice (some ⟨g, 0, none⟩) t.length c] w fun e w' =>
      e = .returned (.tuple #[.int .i64 (if (S.app F C A seq t).2 = 0 then (((A + t.length + 1) % C : Nat) : Int) else 0), .int .i64 (S.app F C A seq t).2]) ∧ ∃ f', RigR rb p0 p1 (S.app F C A seq t).1 w' f' ∧ Turn f f' w w' := by
  have HF := Lib.hid (rgFits_yes h hn hC2 hC hF hA)
  have n1 := ht.least
  have n2 := ht.most
  have HE : Hid (∀ x, Below w.heap.size w x → Calls Tryz.prog 109 #[.int .u32 seq, .slice (some ⟨g, 0, none⟩) t.length c] x fun e w' => (∃ v, e = .returned (.tuple #[v, .bool true]) ∧ w'.ownsRow x.heap.size 60 64 v ((txnB seq t).map u8s).length ((txnB seq t).map u8s).flatten) ∧ Below x.heap.size x w') := fun x hx =>
    (rgEncoded (by omega) ht.ok hs (range_below hx hgl hg) (Nat.lt_of_lt_of_le hgl hx.size)).mono fun e w' hh => ⟨hh.1 ht.fits, hh.2.2⟩
  have hin : ∀ P L, ∀ x ∈ wsAt F C P L, x.1 < S.n0 := fun P L => wsAt_in (by omega) hF
  have htl : ((txnB seq t).take t.length).length = t.length := by rw [List.length_take, txnB_length]; omega
  have hdl : ((txnB seq t).drop t.length).length = 1 := by rw [List.length_drop, txnB_length]; omega
  have h64 : ∀ b ∈ txnB seq t, b.length = 64 := fun b hb => by
    unfold txnB at hb
    rcases List.mem_append.1 hb with hb | hb
    · obtain ⟨x, hx, rfl⟩ := List.mem_map.1 hb
      exact Sct.bytes_length (imgSct_ok hs (ht.ok x hx))
    · simp at hb
      rw [hb]
      exact Sct.bytes_length (comSct_ok hs)
  obtain ⟨s1, s2, s3, s4, s5, s6⟩ := RS.st_spec (hin A ((txnB seq t).take t.length)) (wsAt_nodup (by omega)) hf (by omega)
  have hst := S.app_st F C A seq t
  rw [wsAt_length, htl] at s4
  have HST1 : Hid (∀ (x : World) (B c : Nat), RigR rb p0 p1 S x f → x.rangeAt B 0 ((txnB seq t).map u8s).flatten → B < x.heap.size → ¬ f B →
      Calls Tryz.prog 110 #[.pointer (some ⟨rb, 0, none⟩), .int .i64 (F : Int), .int .i64 (C : Int), .int .i64 (A : Int), .slice (some ⟨B, 0, none⟩) t.length c] x fun e w' => e = .returned (.int .i64 (S.st (wsAt F C A ((txnB seq t).take t.length))).2) ∧ ∃ f', RigR rb p0 p1 (S.st (wsAt F C A ((txnB seq t).take t.length))).1 w' f' ∧ Turn f f' x w') := fun x B c hx hr hB hfB => by
    have := rgStore (P := A) (c := c) hx (by omega) ⟨hd0, by omega⟩ hf (by omega) (by omega) hC hF hn (by omega) (L := (txnB seq t).take t.length) (fun b hb => h64 b (List.mem_of_mem_take hb)) (by omega) (g := B) (o := 0) (by
      obtain ⟨r, e⟩ := flat_take (L := (txnB seq t).map u8s) (n := t.length) (by simp [txnB_length])
      rw [e] at hr
      rw [List.map_take]
      exact range_take hr) hB hfB
    rw [htl] at this
    exact this
  have HST2 : Hid (∀ (x : World) (B c : Nat) (f' : Nat → Prop), RigR rb p0 p1 (S.st (wsAt F C A ((txnB seq t).take t.length))).1 x f' → x.rangeAt B 0 ((txnB seq t).map u8s).flatten → B < x.heap.size → ¬ f' B →
      Calls Tryz.prog 110 #[.pointer (some ⟨rb, 0, none⟩), .int .i64 (F : Int), .int .i64 (C : Int), .int .i64 ((A : Int) + (t.length : Int)), .slice (some ⟨B, t.length * 64, none⟩) 1 c] x fun e w' => e = .returned (.int .i64 (((S.st (wsAt F C A ((txnB seq t).take t.length))).1.st (wsAt F C (A + t.length) ((txnB seq t).drop t.length))).2)) ∧ ∃ f'', RigR rb p0 p1 ((S.st (wsAt F C A ((txnB seq t).take t.length))).1.st (wsAt F C (A + t.length) ((txnB seq t).drop t.length))).1 w' f'' ∧ Turn f' f'' x w') := fun x B c f' hx hr hB hfB => by
    have := rgStore (P := A + t.length) (c := c) hx (by omega) ⟨by omega, by omega⟩ s5 (by omega) (by omega) hC (by rw [s1]; exact hF) (by rw [s1]; exact hn) (by omega) (L := (txnB seq t).drop t.length) (fun b hb => h64 b (List.mem_of_mem_drop hb)) (by omega) (g := B) (o := t.length * 64) (by
      have e : ((txnB seq t).map u8s).flatten = (((txnB seq t).map u8s).take t.length).flatten ++ (((txnB seq t).map u8s).drop t.length).flatten := by rw [← List.flatten_append, List.take_append_drop]
      rw [e] at hr
      rw [List.map_drop]
      have := range_drop hr (k := t.length * 64) (by
        rw [← List.map_take, flat_len (s := 64) (fun x hx => by obtain ⟨y, hy, rfl⟩ := List.mem_map.1 hx; rw [u8s_length]; exact h64 y (List.mem_of_mem_take hy)), List.length_map, htl])
      rwa [Nat.zero_add] at this) hB hfB
    rw [hdl, Int.natCast_add] at this
    exact this
  have HLT : Hid (∀ j, f j → j < w.heap.size) := (RigR.isRes rb p0 p1 S).lt h
  have hlen : ((txnB seq t).map u8s).length = t.length + 1 := by rw [List.length_map, txnB_length]
  obtain ⟨a1, ha1⟩ : ∃ a, S.st (wsAt F C A ((txnB seq t).take t.length)) = a := ⟨_, rfl⟩
  rw [ha1] at hst HST1 HST2 s6
  obtain ⟨a2, ha2⟩ : ∃ a, a1.1.st (wsAt F C (A + t.length) ((txnB seq t).drop t.length)) = a := ⟨_, rfl⟩
  rw [ha2] at hst HST2
  obtain ⟨R, hR⟩ : ∃ R, S.app F C A seq t = R := ⟨_, rfl⟩
  rw [hR] at hst ⊢
  have HRR := Lib.hid hst
  have H := Lib.hid h
  have h2E : a2.2 = 0 ∨ a2.2 = 14 := by
    have := (RS.st_spec (S := a1.1) (l := wsAt F C (A + t.length) ((txnB seq t).drop t.length)) (by rw [← ha1, s1]; exact hin _ _) (wsAt_nodup (by omega)) (by rw [← ha1]; exact s5) (by omega)).2.2.2.2.2
    rwa [ha2] at this
  obtain ⟨ys, hys⟩ : ∃ ys, (txnB seq t).map u8s = ys := ⟨_, rfl⟩
  rw [hys] at HE HST1 HST2 hlen
  obtain ⟨n, hnn⟩ : ∃ n, t.length = n := ⟨_, rfl⟩
  rw [hnn] at n1 n2 HE HST1 HST2 hlen ⊢
  have g1 : ((n : Int) == 0) = false := by simp; omega
  have g2 : decide ((C : Int) - 1 < (n : Int)) = false := by simp; omega
  have g2' : decide ((n : Int) > (C : Int) - 1) = false := g2
  have hYL := Lib.hid hlen
  obtain ⟨r1, hr1⟩ : ∃ r, (if R.2 = 0 then (((A + n + 1) % C : Nat) : Int) else 0) = r := ⟨_, rfl⟩
  obtain ⟨r2, hr2⟩ : ∃ r, R.2 = r := ⟨_, rfl⟩
  rw [hr1, hr2]
  have HR1 := Lib.hid hr1
  have HR2 := Lib.hid hr2
  clear h hfu hd0 hd1 hf hF hn hs ht hg hgl hgf hin htl hdl h64 s1 s2 s3 s4 s5 hst hR ha1 ha2 hys hnn hlen hr1 hr2
  go_enter Tryz.func66, Tryz.ntmps66
  go_wp2_with fail
  go_at_call 108
  refine HF.out.mono ?_
  rintro e x1 ⟨rfl, hb1⟩
  have HB1 := Lib.hid hb1
  have HE2 := Lib.hid (HE.out x1 hb1)
  clear hb1 HE HF
  go_wp2_with fail
  go_at_call 109
  refine HE2.out.mono ?_
  rintro e x2 ⟨⟨v, rfl, hO⟩, hb2⟩
  have HB2 : Hid (Below w.heap.size w x2) := HB1.out.trans (hb2.mono HB1.out.size)
  rw [hYL.out] at hO
  obtain ⟨B, cc, rfl, hBN, hBc, hBl, hBr⟩ := own_row hO (by omega)
  have hBw : w.heap.size ≤ B := Nat.le_trans HB1.out.size hBN
  have hfB : ¬ f B := fun h => Nat.lt_irrefl _ (Nat.lt_of_lt_of_le (HLT.out B h) hBw)
  have HC1 := Lib.hid (HST1.out x2 B cc (H.out.beside HB2.out) hBr hBl hfB)
  have SL1 : Hid (∀ W : World, (Instr.sliceAt 69 (.slice (some ⟨B, 0, none⟩) (n + 1) cc) none (some (.int .i64 (n : Int))) none).run Tryz.prog W = .ok (.slice (some ⟨B, 0, none⟩) n cc) W) := fun W => cut_blk_hi W (by omega) hBc
  have SL2 : Hid (∀ W : World, (Instr.sliceAt 69 (.slice (some ⟨B, 0, none⟩) (n + 1) cc) (some (.int .i64 (n : Int))) none none).run Tryz.prog W = .ok (.slice (some ⟨B, n * 64, none⟩) 1 (cc - n)) W) := fun W => by
    have := cut_blk_lo W (g := B) (o := 0) (n := n + 1) (c := cc) (K := n) (by omega) hBc
    rwa [Nat.zero_add, Nat.add_sub_cancel_left] at this
  have HBR := Lib.hid hBr
  have HFB := Lib.hid hfB
  clear hO hb2 HE2 HST1 hBr hfB hBw hBN
  go_wp2_with ((with_reducible refine gate_slice 49 ?_); refine wpList_slice_run (.tmp 49) 69 none (some (.tmp 50)) rfl rfl _ _ _ _ rfl rfl rfl (SL1.out _) ?_)
  go_at_call 110
  refine HC1.out.mono ?_
  rintro e x3 ⟨rfl, f3, q3, t3⟩
  have T3 : Hid (Turn f f3 w x3) := (Turn.of_below HB2.out).trans t3
  have Q3 := Lib.hid q3
  have hBr3 : x3.rangeAt B 0 ys.flatten := rangeAt_same HBR.out (t3.out B hBl HFB.out)
  have hBl3 : B < x3.heap.size := Nat.lt_of_lt_of_le hBl t3.size
  have hfB3 : ¬ f3 B := fun h => (t3.new B h).elim HFB.out (fun h => Nat.lt_irrefl _ (Nat.lt_of_lt_of_le hBl h))
  have HC2 := Lib.hid (HST2.out x3 B (cc - n) f3 q3 hBr3 hBl3 hfB3)
  clear q3 t3 hBr3 hBl3 hfB3 HST2 HC1
  by_cases h1 : a1.2 = 0
  · have hR : Hid (R = a2) := by show R = a2; rw [HRR.out, if_pos h1]
    rw [h1]
    go_wp2_with ((with_reducible refine gate_slice 62 ?_); refine wpList_slice_run (.tmp 62) 69 (some (.tmp 63)) none rfl rfl _ _ _ _ rfl rfl rfl (SL2.out _) ?_)
    go_at_call 110
    refine HC2.out.mono ?_
    rintro e x4 ⟨rfl, f4, q4, t4⟩
    have T4 : Hid (Turn f f4 w x4) := T3.out.trans t4
    have Q4 := Lib.hid q4
    clear q4 t4 HC2
    by_cases h2 : a2.2 = 0
    · have hr : Hid (r1 = (((A + n + 1) % C : Nat) : Int) ∧ r2 = 0) := by refine (?_ : _ ∧ _); rw [← HR1.out, ← HR2.out, hR.out, h2]; exact ⟨if_pos rfl, rfl⟩
      rw [h2]
      have hCz : ¬ ((C : Int) = 0) := by omega
      obtain ⟨i, hi⟩ : ∃ i, (A + n + 1) % C = i := ⟨_, rfl⟩
      have hii : ((A : Int) + ((n : Int) + 1)) % (C : Int) = (i : Int) := by rw [← hi, Int.natCast_emod]; congr 1
      rw [hi] at hr
      have HII := Lib.hid hii
      clear hi hii
      go_wp2_with fail
      go_ret2
      rw [hr.out.1, hr.out.2, hR.out, ← HII.out]
      exact ⟨rfl, f4, Q4.out, T4.out⟩
    · have h14 := h2E.resolve_left h2
      have hr : Hid (r1 = 0 ∧ r2 = 14) := by refine (?_ : _ ∧ _); rw [← HR1.out, ← HR2.out, hR.out, h14]; exact ⟨if_neg (by omega), rfl⟩
      rw [h14]
      clear h2 h14
      go_wp2_with fail
      go_ret2
      rw [hr.out.1, hr.out.2, hR.out]
      exact ⟨rfl, f4, Q4.out, T4.out⟩
  · have h14 := s6.resolve_left h1
    have hR : Hid (R = a1) := by show R = a1; rw [HRR.out, if_neg h1]
    have hr : Hid (r1 = 0 ∧ r2 = 14) := by refine (?_ : _ ∧ _); rw [← HR1.out, ← HR2.out, hR.out, h14]; exact ⟨if_neg (by omega), rfl⟩
    rw [h14]
    clear h1
    go_wp2_with fail
    go_ret2
    rw [hr.out.1, hr.out.2, hR.out]
    exact ⟨rfl, f3, Q3.out, T3.out⟩
end Go.Proofs.YtbdfllamhcodjaaGreat

/- Replaying as the developers do it: one place after the other; no program. Transactions whose images lie ahead of a block. -/
namespace Go.Proofs.YtbdfllamhcodjaaGreat
open Go.RowKit
set_option linter.unusedVariables false

/-- What replaying yields, when so many images of the transaction that is begun have been read. -/
def conGo (rd : Nat → List Int) (F C : Nat) : Nat → List (List Img) → Nat → Int → Nat → List Img → List (List Img) × Nat × Int
  | 0, ts, A, q, _, _ => (ts, A, q)
  | f + 1, ts, A, q, k, acc =>
    match oneGo (turnG rd F C A) q (C - k) k acc with
    | none => (ts, A, q)
    | some t => repGo rd F C f ((A + t.length + 1) % C) ((q + 1) % 4294967296) (ts ++ [t])
theorem con_succ (rd : Nat → List Int) (F C f : Nat) (ts : List (List Img)) (A : Nat) (q : Int) (k : Nat) (acc : List Img) : conGo rd F C (f + 1) ts A q k acc = (match oneGo (turnG rd F C A) q (C - k) k acc with
    | none => (ts, A, q)
    | some t => repGo rd F C f ((A + t.length + 1) % C) ((q + 1) % 4294967296) (ts ++ [t])) := rfl
theorem con_start (rd : Nat → List Int) (F C f : Nat) (ts : List (List Img)) (A : Nat) (q : Int) : conGo rd F C f ts A q 0 [] = repGo rd F C f A q ts := by
  cases f with
  | zero => rfl
  | succ f => rfl
theorem decS_img {bs : List Int} (h : (decS bs).mark = 73 ∨ (decS bs).mark = 67) : decOk bs = true ∧ decS bs = Sct.of bs := by
  unfold decS at h ⊢
  by_cases hd : decOk bs = true
  · rw [if_pos hd]; exact ⟨hd, rfl⟩
  · rw [if_neg hd] at h
    rcases h with h | h <;> cases h
theorem con_img {rd : Nat → List Int} {F C f : Nat} {ts : List (List Img)} {A : Nat} {q : Int} {k : Nat} {acc : List Img} {bs : List Int} (hb : turnG rd F C A k = bs) (hk : k + 1 < C) (h1 : (decS bs).mark = 73) (h2 : (decS bs).seq = q) :
    conGo rd F C (f + 1) ts A q k acc = conGo rd F C (f + 1) ts A q (k + 1) (acc ++ [⟨(decS bs).index, (decS bs).body⟩]) := by
  obtain ⟨hd, e⟩ := decS_img (.inl h1)
  rw [e] at h1 h2 ⊢
  have : oneGo (turnG rd F C A) q (C - k) k acc = oneGo (turnG rd F C A) q (C - (k + 1)) (k + 1) (acc ++ [⟨(Sct.of bs).index, (Sct.of bs).body⟩]) := by
    rw [show C - k = (C - (k + 1)) + 1 by omega]
    conv => lhs; unfold oneGo
    rw [hb, hd, h2, h1, if_neg (by simp), if_neg (by omega), if_neg (by omega)]
  rw [con_succ, con_succ, this]
theorem con_com {rd : Nat → List Int} {F C f : Nat} {ts : List (List Img)} {A : Nat} {q : Int} {k : Nat} {acc : List Img} {bs : List Int} (hb : turnG rd F C A k = bs) (hk : k < C) (hk1 : 1 ≤ k) (ha : acc.length = k) (h : decS bs = comSct q k) :
    conGo rd F C (f + 1) ts A q k acc = repGo rd F C f ((A + k + 1) % C) ((q + 1) % 4294967296) (ts ++ [acc]) := by
  obtain ⟨hd, e⟩ := decS_img (bs := bs) (.inr (by rw [h]; rfl))
  rw [e] at h
  have : oneGo (turnG rd F C A) q (C - k) k acc = some acc := by
    rw [show C - k = (C - (k + 1)) + 1 by omega]
    unfold oneGo
    rw [hb, hd, h, if_neg (by simp [comSct]), if_pos (by simp [comSct]), if_neg (by rintro (h | h | h); omega; exact h rfl; exact h rfl)]
  rw [con_succ, this]
  simp only [ha]
theorem con_stop {rd : Nat → List Int} {F C f : Nat} {ts : List (List Img)} {A : Nat} {q : Int} {k : Nat} {acc : List Img} {bs : List Int} (hb : turnG rd F C A k = bs) (hk : k < C) (h1 : ¬ (((decS bs).mark = 73 ∧ (decS bs).seq = q) ∧ k + 1 < C)) (h2 : ¬ (1 ≤ k ∧ decS bs = comSct q k)) :
    conGo rd F C (f + 1) ts A q k acc = (ts, A, q) := by
  have : oneGo (turnG rd F C A) q (C - k) k acc = none := by
    rw [show C - k = (C - (k + 1)) + 1 by omega]
    unfold oneGo
    rw [hb]
    by_cases hd : decOk bs = true
    · have e : decS bs = Sct.of bs := by unfold decS; rw [if_pos hd]
      rw [e] at h1 h2
      by_cases hq : (Sct.of bs).seq = q
      · rw [if_neg (by rintro (h | h); rw [hd] at h; cases h; exact h hq)]
        by_cases hm : (Sct.of bs).mark = 67
        · rw [if_pos hm]
          refine if_pos ?_
          rcases Nat.lt_or_ge k 1 with h | h
          · exact .inl h
          · right
            by_cases hi : (Sct.of bs).index = k
            · right
              intro hz
              refine h2 ⟨h, ?_⟩
              rw [show Sct.of bs = ⟨(Sct.of bs).mark, (Sct.of bs).seq, (Sct.of bs).index, (Sct.of bs).body⟩ from rfl, hm, hq, hi, hz]
              rfl
            · exact .inl hi
        · rw [if_neg hm]
          by_cases hm3 : (Sct.of bs).mark = 73
          · have : C - (k + 1) = 0 := by
              rcases Nat.lt_or_ge (k + 1) C with h | h
              · exact absurd ⟨⟨hm3, hq⟩, h⟩ h1
              · omega
            rw [if_neg (by simpa using hm3), this]
            rfl
          · rw [if_pos hm3]
      · rw [if_pos (.inr hq)]
    · rw [if_pos (.inl (by simpa using hd))]
  rw [con_succ, this]
/-- Transactions that have been made since block N, their images ahead of block M. -/
def TxnsM (x : World) (N M : Nat) (v : Value) (ts : List (List Img)) : Prop :=
  ∃ vs : List Value, vs.length = ts.length ∧ x.ownsRow N 130 1 v vs.length vs ∧ ∀ (i : Nat) (u : Value) (t : List Img), vs[i]? = some u → ts[i]? = some t → x.ownsRow N 133 49 u t.length (imgR t).flatten ∧ ∀ j, u.ownBlock = some j → j < M
section
variable {x y : World} {N M : Nat} {v : Value} {ts : List (List Img)}
theorem TxnsM.toR (h : TxnsM x N M v ts) : TxnsR 130 133 x N v ts := by
  obtain ⟨vs, h1, h2, h3⟩ := h
  exact ⟨vs, h1, h2, fun i u t hu ht => (h3 i u t hu ht).1⟩
theorem TxnsM.nil (x : World) (N M : Nat) : TxnsM x N M (.slice none 0 0) [] := ⟨[], rfl, World.ownsRow_nil _ _ _ _, fun i u t h => by simp at h⟩
theorem TxnsM.below (h : TxnsM x N M v ts) (hb : Below x.heap.size x y) : TxnsM y N M v ts := by
  obtain ⟨vs, h1, h2, h3⟩ := h
  exact ⟨vs, h1, own_belowT h2 hb, fun i u t hu ht => ⟨own_belowT (h3 i u t hu ht).1 hb, (h3 i u t hu ht).2⟩⟩
theorem TxnsM.grownC {B : Nat} {C : List Value} {t : TypeId} (h : TxnsM x N M v ts) (hB : RowC x B t C) (h1 : 130 ≠ t) (h2 : 133 ≠ t) (hg : x.grownBy y (some B)) : TxnsM y N M v ts := by
  obtain ⟨vs, g1, g2, g3⟩ := h
  exact ⟨vs, g1, g2.kept hg (.inr (row_ne g2 hB h1)), fun i w t hw ht => ⟨(g3 i w t hw ht).1.kept hg (.inr (row_ne (g3 i w t hw ht).1 hB h2)), (g3 i w t hw ht).2⟩⟩
theorem TxnsM.grownI {iv : Value} {n : Nat} {xs : List Value} (h : TxnsM x N M v ts) (hi : x.ownsRow M 133 49 iv n xs) (hg : x.grownBy y iv.ownBlock) : TxnsM y N M v ts := by
  obtain ⟨vs, g1, g2, g3⟩ := h
  refine ⟨vs, g1, g2.kept hg (rows_ne g2 hi (by decide)), fun i w t hw ht => ⟨(g3 i w t hw ht).1.kept hg ?_, (g3 i w t hw ht).2⟩⟩
  cases hw' : w.ownBlock with
  | none => exact .inl rfl
  | some j =>
    right
    intro e
    have h1 := (g3 i w t hw ht).2 j hw'
    have h2 := (hi.lt j e.symm).1
    omega
set_option maxRecDepth 100000 in
/-- A transaction appended to transactions. -/
theorem append_slsM {w : World} {t : List Img} {a : Option Addr} {c B : Nat} (h : TxnsM w N M v ts) (ht : w.ownsRow M 133 49 (.slice a t.length c) t.length (imgR t).flatten) (hNM : N ≤ M) (hMw : M ≤ w.heap.size)
    (hB : RowC w B 130 [.slice a t.length c]) (hlen : ts.length ≤ 1000000) :
    ∃ v' w', (Builtin.append_ #[155, 155] 155 #[v, .slice (some ⟨B, 0, none⟩) 1 1]).run Tryz.prog w = .ok v' w' ∧ TxnsM w' N w.heap.size v' (ts ++ [t]) ∧ w.grownBy w' v.ownBlock := by
  obtain ⟨i0, hi, hz0, hz1, hz2⟩ := info_parts info_slsD
  obtain ⟨vs, g1, g2, g3⟩ := h
  obtain ⟨v', w', hr, h1, h2, _⟩ := run_append_own (P := Tryz.prog) w N 155 155 130 i0 (.slice none 0 0) 1 24 Tryz.underlying155 hi hz0 hz1 hz2 rfl (by decide) v vs.length vs g2
    ⟨B, 0, none⟩ 1 1 [.slice a t.length c] rfl (fun j u hj => by have := hB.range j u hj; rwa [Addr.add_mid]) (fun u hu => by simp at hu; rw [hu]; rfl) (by unfold maxLen; omega) (by omega) (by omega)
  have hk : ∀ {n : Nat} {u : Value} {xs : List Value}, w.ownsRow N 133 49 u n xs → w'.ownsRow N 133 49 u n xs := fun hu => hu.kept h2 (rows_ne hu g2 (by decide))
  refine ⟨v', w', hr, ⟨vs ++ [.slice a t.length c], by simp [g1], by simpa using h1, fun i u s hu hs => ?_⟩, h2⟩
  by_cases hi : i < vs.length
  · rw [List.getElem?_append_left hi] at hu
    rw [List.getElem?_append_left (by omega)] at hs
    exact ⟨hk (g3 i u s hu hs).1, fun j hj => by have := (g3 i u s hu hs).2 j hj; omega⟩
  · rw [List.getElem?_append_right (by omega)] at hu hs
    rw [g1] at hu
    cases hj : i - ts.length with
    | zero =>
      rw [hj] at hu hs
      simp at hu hs
      subst hu
      subst hs
      exact ⟨hk (own_from ht hNM), fun j hj => (ht.lt j hj).2⟩
    | succ j =>
      rw [hj] at hu
      simp at hu
end
end Go.Proofs.YtbdfllamhcodjaaGreat

/- The trial of layer 6 comes to true. -/
namespace Go.Proofs.YtbdfllamhcodjaaGreat
open Go.RowKit Go.Shelf
set_option linter.unusedVariables false
attribute [-simp] Tryz.isAgg60 Tryz.zeroValue60 Tryz.isAgg112 Tryz.zeroValue112 Tryz.isAgg167 Tryz.zeroValue167 Tryz.isAgg139 Tryz.zeroValue139 Tryz.isAgg133 Tryz.zeroValue133
attribute [-go_sem] loadVar storeVar run_equalIn_agg
attribute [local go_sem] zero_blk build_blk zero_bod build_bod zero_sec zero_imgR zero_imgD loadVar_open6 storeVar_open6

set_option maxRecDepth 100000 in
theorem size_logD : (Tryz.prog.info? 157).map (·.size) = some 3 := by kernel_rfl
set_option maxRecDepth 100000 in
theorem store_newLD {w : World} {a b c a' b' c' : Value} (h : a'.oneCell' = true ∧ b'.oneCell' = true ∧ c'.oneCell' = true) :
    (storeVar 157 ⟨w.heap.size, 0, none⟩ (.agg #[a', b', c'])).run Tryz.prog (w.alloc (.cells #[a, b, c] 157)) = .ok () (w.alloc (.cells #[a', b', c'] 157)) :=
  run_storeVar_new w _ _ #[a', b', c'] size_logD rfl (by simp [h])

end Go.Proofs.YtbdfllamhcodjaaGreat

/- The developers' ring: Replay. -/
namespace Go.Proofs.YtbdfllamhcodjaaGreat
open Go.RowKit Go.Shelf
set_option linter.unusedVariables false
attribute [-simp] Tryz.isAgg60 Tryz.zeroValue60 Tryz.isAgg112 Tryz.zeroValue112 Tryz.isAgg189 Tryz.zeroValue189 Tryz.isAgg133 Tryz.zeroValue133
attribute [-go_sem] loadVar storeVar run_equalIn_agg
attribute [local go_sem] zero_blk build_blk zero_bod zero_pg build_pg build_pg0 zero_imgD loadVar_openD storeVar_openD

set_option maxRecDepth 100000 in
theorem load_logD {x : World} {B a : Nat} {t : TypeId} {v : Value} {q : Int} (h : RowC x B t (logD v a q)) : (loadVar 157 ⟨B, 0, none⟩).run Tryz.prog x = .ok (.agg (logD v a q).toArray) x :=
  run_loadVar_mid x B 0 _ (logD v a q) _ h.range Tryz.underlying157 rfl (by kernel_rfl)
set_option maxRecDepth 100000 in
theorem store_logD {x : World} {B a : Nat} {old : List Value} {v : Value} {q : Int} (h : RowC x B 157 old) (ho : old.length = 3) (hv : v.oneCell' = true) :
    ∃ y, (storeVar 157 ⟨B, 0, none⟩ (.agg (logD v a q).toArray)).run Tryz.prog x = .ok () y ∧ RowC y B 157 (logD v a q) ∧ x.grownBy y (some B) := by
  refine ⟨_, run_storeVar_row x B _ _ old.toArray (logD v a q).toArray h size_logD (by simpa [logD] using ho) (by simp [logD, hv]; exact ⟨rfl, rfl⟩), setRow_heap x B _ _ _ _ h, ?_⟩
  exact ⟨rfl, rfl, rfl, by rw [setRow_size]; exact Nat.le_refl _, fun k _ hk => setRow_other x B k _ (fun e => hk (by rw [e]))⟩

set_option maxRecDepth 100000 in
set_option maxHeartbeats 4000000 in
/-- .. of no such ring. -/
theorem rgReplay_no0 {v : Value} {n0 : Nat} {w : World} (hn : n0 ≤ 4096) (HL : ∀ x, Below w.heap.size w x → Calls Tryz.prog 94 #[v, .int .i64 0] x fun e w' => e = .returned (.int .i64 (n0 : Int)) ∧ Below x.heap.size x w') {frm count at0 seq : Int} (hm : mayR n0 frm count at0 = false) :
    Calls Tryz.prog 80 #[v, .int .i64 frm, .int .i64 count, .int .i64 at0, .int .u32 seq] w fun e w' => e = .returned (.tuple #[.agg (logD (.slice none 0 0) 0 0).toArray, .int .i64 1]) ∧ Below w.heap.size w w' := by
  have HF := Lib.hid (rgFits hn frm count at0 (w.alloc (.cells #[.slice none 0 0, .int .i64 0, .int .u32 0] 157)) (HL _ (below_new w _)))
  rw [hm] at HF
  clear HL hm hn
  go_enter Tryz.func80, Tryz.ntmps80
  go_wp2_with fail
  go_step3
  go_wp2_with fail
  go_at_call 108
  refine HF.out.mono ?_
  rintro e x ⟨rfl, hb⟩
  have hr := (RowC.new w 157 (logD (.slice none 0 0) 0 0)).below hb
  have hb1 : Below w.heap.size w x := (below_new w (.cells (logD (.slice none 0 0) 0 0).toArray 157)).trans (hb.mono (below_new w _).size)
  obtain ⟨y, ST, hy, hg⟩ := store_logD (v := .slice none 0 0) (a := 0) (q := 0) hr rfl rfl
  have ST' : (storeVar 157 ⟨w.heap.size, 0, none⟩ (.agg #[.slice none 0 0, .int .i64 0, .int .u32 0])).run Tryz.prog x = .ok () y := ST
  have LD := load_logD hy
  clear ST
  have HB : Hid (Below w.heap.size w y) := hb1.grown hg hb1.size (fun j e => by cases e; exact Nat.le_refl _)
  clear hb hr hb1 hy hg
  go_wp2_with fail
  rw [Exit.noGoto_ret]
  refine bodyPost_ret (results_cell2 rfl rfl LD) rfl ⟨rfl, HB.out⟩

def slLen : Value → Nat
  | .slice _ n _ => n
  | _ => 0

set_option maxRecDepth 100000 in
set_option maxHeartbeats 8000000 in
/-- **Replay**. -/
theorem rgReplay {rb p0 p1 : Nat} {S : RS} {w : World} {f : Nat → Prop} (h : RigR rb p0 p1 S w f) (hby : S.Byt) (hup : S.down = false) {F C A : Nat} (hC2 : 2 ≤ C) (hC : C ≤ 256) (hF : F + C ≤ S.n0) (hA : A < C) (hn : S.n0 ≤ 4096) {seq : Int} (hs : IsSeq seq) :
    Calls Tryz.prog 80 #[.pointer (some ⟨rb, 0, none⟩), .int .i64 (F : Int), .int .i64 (C : Int), .int .i64 (A : Int), .int .u32 seq] w fun e w' =>
      (∃ v, e = .returned (.tuple #[.agg (logD v (repS S.rd F C A seq).2.1 (repS S.rd F C A seq).2.2).toArray, .int .i64 0]) ∧ TxnsR 130 133 w' w.heap.size v (repS S.rd F C A seq).1) ∧ Below w.heap.size w w' := by
  obtain ⟨res, hres⟩ : ∃ res, repS S.rd F C A seq = res := ⟨_, rfl⟩
  have HR : Hid (conGo S.rd F C C [] A seq 0 [] = res) := by show _ = _; rw [con_start]; exact hres
  rw [hres]
  have HF : Hid (∀ x, Below w.heap.size w x → Calls Tryz.prog 108 #[.pointer (some ⟨rb, 0, none⟩), .int .i64 (F : Int), .int .i64 (C : Int), .int .i64 (A : Int)] x fun e w' => e = .returned (.bool true) ∧ Below x.heap.size x w') := fun x hx => rgFits_yes (h.beside hx) hn hC2 hC hF hA
  have HBY := Lib.hid hby
  have HRD : Hid (∀ (x : World) (i : Nat), Below w.heap.size w x → i < S.n0 → Calls Tryz.prog 33 #[.pointer (some ⟨rb, 0, none⟩), .int .i64 0, .int .i64 (i : Int)] x fun e w' => e = .returned (.tuple #[.agg (u8s (S.rd i)).toArray, .int .i64 0]) ∧ Below x.heap.size x w') := fun x i hx hin => by
    have hh := (h.beside hx).read 0 (i : Int)
    have e1 : S.read 0 (i : Int) = u8s (S.rd i) := by
      unfold RS.read
      rw [if_pos ⟨RS.has0 hin, hup⟩]
      unfold RS.look
      rw [if_pos rfl]
      exact (hby i hin).2.2
    have e2 : S.readE 0 (i : Int) = 0 := by
      unfold RS.readE
      rw [if_pos (RS.has0 hin), if_neg (by rw [hup]; simp)]
    rw [e1, e2] at hh
    exact hh
  have HSQ := Lib.hid hs
  have HFN := Lib.hid hF
  have hF4 : F ≤ 4096 := by omega
  obtain ⟨rd, hrd⟩ : ∃ rd, S.rd = rd := ⟨_, rfl⟩
  have HBY2 : Hid (∀ i, i < S.n0 → IsBytes (rd i) ∧ (rd i).length = 64) := fun i hi => by rw [← hrd]; exact ⟨(hby i hi).1, (hby i hi).2.1⟩
  rw [hrd] at HR HRD
  clear h hby hup hs hres hF hn HBY hrd
  go_enter Tryz.func80, Tryz.ntmps80
  go_wp2_with fail
  go_step3
  go_wp2_with fail
  go_at_call 108
  refine (HF.out _ (below_new w _)).mono ?_
  rintro e x ⟨rfl, hb⟩
  have R0 := (RowC.new w 157 (logD (.slice none 0 0) 0 0)).below hb
  have hb1 : Below w.heap.size w x := (below_new w (.cells (logD (.slice none 0 0) 0 0).toArray 157)).trans (hb.mono (below_new w _).size)
  have hne : w.heap.size < x.heap.size := R0.lt
  obtain ⟨W, hW⟩ : ∃ W, x.alloc (.cells #[.slice none 0 0, .int .i64 (A : Int), .int .u32 seq] 157) = W := ⟨_, rfl⟩
  have ST := store_newLD (w := x) (a := .slice none 0 0) (b := .int .i64 0) (c := .int .u32 0) (a' := .slice none 0 0) (b' := .int .i64 (A : Int)) (c' := .int .u32 seq) ⟨rfl, rfl, rfl⟩
  rw [hW] at ST
  have hb2 : Below x.heap.size x W := by rw [← hW]; exact below_new x _
  have r1 : RowC W x.heap.size 157 (logD (.slice none 0 0) A seq) := by rw [← hW]; exact RowC.new x _ _
  have RZ := Lib.hid (R0.below hb2)
  have RL := Lib.hid r1
  have HB := Lib.hid (hb1.trans (hb2.mono hb1.size))
  clear hb R0 hb1 hW hb2 r1 HF
  obtain ⟨B, hB⟩ : ∃ B, x.heap.size = B := ⟨_, rfl⟩
  rw [hB] at ST RL hne
  have hNW : Hid (w.heap.size ≤ W.heap.size) := HB.out.size
  go_wp2_with fail
  clear ST hB
  go_step3
  go_wp2_with fail
  go_loopw [13, 14] (fun im pl wr => ∃ (ts : List (List Img)) (A' : Nat) (q : Int) (k : Nat) (acc : List Img) (v : Value) (P M : Nat), ts.length ≤ C ∧ A' < C ∧ k < C ∧ (0 < k → ts.length < C) ∧ P ≤ 256 + 256 * ts.length + k ∧ pl = .int .i64 (P : Int) ∧ Hid (IsSeq q) ∧ Hid (acc.length = k) ∧ Hid (P % C = (A' + k) % C) ∧ Hid (RowC wr w.heap.size 157 (logD (.slice none 0 0) 0 0)) ∧ Hid (RowC wr B 157 (logD v A' q)) ∧ Hid (TxnsM wr w.heap.size M v ts) ∧ Hid (wr.ownsRow M 133 49 im (imgR acc).length (imgR acc).flatten) ∧ Hid (w.heap.size ≤ M ∧ M ≤ wr.heap.size) ∧ Hid (Below w.heap.size w wr) ∧ Hid (conGo rd F C (C - ts.length) ts A' q k acc = res)) (fun im _ wr => (C - lenAt wr B) * (C + 1) + (C - slLen im))
  case atStart => exact ⟨[], A, seq, 0, [], _, A, W.heap.size, Nat.zero_le _, hA, by omega, fun h => absurd h (by omega), by simp; omega, rfl, HSQ, rfl, rfl, RZ, RL, TxnsM.nil _ _ _, World.ownsRow_nil _ _ _ _, ⟨hNW.out, Nat.le_refl _⟩, HB, HR⟩
  case round =>
    obtain ⟨ts, A', q, k, acc, v, P, M, hk, hA', hkC, hk0, hP, rfl, HQ, HAC, HPM, HZ, HL, HT, HI, HM, HB, HG⟩ := hrel
    obtain ⟨vs, hvl, hvo, hvt⟩ := HT.out
    obtain ⟨ra, c, rfl, -⟩ := row_lenT hvo
    rw [hvl] at HL HT
    obtain ⟨ri, ci, him, -⟩ := row_lenT HI.out
    subst him
    have hil : (imgR acc).length = k := by rw [imgR_length]; exact HAC.out
    rw [hil] at HI
    have HIL := Lib.hid hil
    rw [hil]
    have c0 : wr.cell? ⟨B, 0, none⟩ = some (.slice ra ts.length c) := HL.out.cell 0 _ rfl
    have HLN : Hid (lenAt wr B = ts.length) := by show lenAt wr B = _; unfold lenAt; rw [c0]
    clear hvl hvo hvt hil
    by_cases hlt : ts.length < C
    · have g1 : decide ((ts.length : Int) < (C : Int)) = true := by simp; omega
      obtain ⟨i, hi⟩ : ∃ i, F + (A' + k) % C = i := ⟨_, rfl⟩
      have hin : i < S.n0 := by have := Nat.mod_lt (A' + k) (show 0 < C by omega); have := HFN.out; omega
      have HTG : Hid (turnG rd F C A' k = rd i) := by show rd (F + (A' + k) % C) = _; rw [hi]
      have HSEC : Hid (Calls Tryz.prog 123 #[.int .i64 (F : Int), .int .i64 (C : Int), .int .i64 (P : Int)] wr fun e w' => e = .returned (.int .i64 (i : Int)) ∧ w' = wr) := by
        have := rgSector (F := F) (C := C) (P := P) (by omega) hC hF4 (by omega) wr
        rwa [HPM.out, hi] at this
      have HR1 := Lib.hid (HRD.out wr i HB.out hin)
      obtain ⟨hbb, hbl⟩ := HBY2.out i hin
      have HIB := Lib.hid hbb
      have HIL2 := Lib.hid hbl
      clear hi hbb hbl hin
      obtain ⟨bs, hbs⟩ : ∃ bs, rd i = bs := ⟨_, rfl⟩
      rw [hbs] at HTG HR1 HIB HIL2
      clear hbs
      go_wp2_with fail
      go_at_call 123
      refine HSEC.out.mono ?_
      rintro e z ⟨rfl, hz⟩
      obtain rfl := hz.symm
      clear HSEC
      go_wp2_with fail
      go_at_call 33
      refine HR1.out.mono ?_
      rintro e x1 ⟨rfl, hb⟩
      obtain ⟨x2, ST2, hr2, hb2⟩ := new_blk x1 (isBlk_u8s HIL2.out)
      have b2 : Below wr.heap.size wr x2 := hb.trans (hb2.mono hb.size)
      have L2 := hr2.blk (by rw [u8s_length]; exact HIL2.out)
      have B2 := Lib.hid b2
      clear hb hb2 b2 hr2 HR1 HRD
      go_wp2_with fail
      clear ST2 L2
      go_at_call 122
      refine (pgDecode bs HIB.out HIL2.out x2).mono ?_
      rintro e x3 ⟨rfl, hb⟩
      have hPO := decS_ok HIB.out HIL2.out
      obtain ⟨x4, ST4, hr4, hb4⟩ := new_pg x3 (decS bs) hPO.len
      have b4 : Below wr.heap.size wr x4 := B2.out.trans ((hb.trans (hb4.mono hb.size)).mono B2.out.size)
      have L4 := hr4.pg hPO.len
      have c2 : x4.cell? ⟨B, 2, none⟩ = some (.int .u32 q) := (HL.out.below b4).cell 2 _ rfl
      obtain ⟨BP, hBP⟩ : ∃ b, x3.heap.size = b := ⟨_, rfl⟩
      rw [hBP] at ST4 hr4 L4
      have B4 := Lib.hid b4
      have R4 := Lib.hid hr4
      obtain ⟨p, hp⟩ : ∃ p, decS bs = p := ⟨_, rfl⟩
      rw [hp] at ST4 L4 R4 hPO ⊢
      have HP := Lib.hid hp
      have HPO := Lib.hid hPO
      clear hb hb4 b4 hr4 hPO hp B2 HIB HIL2
      obtain ⟨z, hz⟩ : ∃ z, (p.mark == 73 && p.seq == q) = z := ⟨_, rfl⟩
      have HII := Lib.hid (rgIsImage p HPO.out.len q x4)
      rw [hz] at HII
      have HZZ := Lib.hid hz
      clear hz
      go_wp2_with fail
      clear ST4
      go_at_call 124
      refine HII.out.mono ?_
      rintro e x5 ⟨rfl, hb⟩
      have B5 : Hid (Below wr.heap.size wr x5) := B4.out.trans (hb.mono B4.out.size)
      have R5 := Lib.hid (R4.out.below hb)
      have L5 := R5.out.pg HPO.out.len
      clear hb L4 c2 HII B4 R4 c0
      have HL5 := Lib.hid (HL.out.below B5.out)
      have HT5 := Lib.hid (HT.out.below B5.out)
      have HI5 := Lib.hid (own_below HI.out B5.out)
      have HZ5 := Lib.hid (HZ.out.below B5.out)
      have HB5 : Hid (Below w.heap.size w x5) := HB.out.trans (B5.out.mono HB.out.size)
      have HM5 : Hid (w.heap.size ≤ M ∧ M ≤ x5.heap.size) := ⟨HM.out.1, Nat.le_trans HM.out.2 B5.out.size⟩
      have hfuel : C - ts.length = (C - ts.length - 1) + 1 := by omega
      have HFU := Lib.hid hfuel
      clear hfuel HL HT HI HZ HB HM B5
      by_cases hA : (p.mark = 73 ∧ p.seq = q) ∧ k + 1 < C
      · have hzt : z = true := by rw [← HZZ.out, hA.1.1, hA.1.2]; simp
        subst hzt
        have hk1 := hA.2
        have g2 : decide ((k : Int) < (C : Int) - 1) = true := by simp; omega
        obtain ⟨X, hX⟩ : ∃ X : Img, X = ⟨p.index, p.body⟩ := ⟨_, rfl⟩
        have HGN : Hid (conGo rd F C (C - ts.length) ts A' q (k + 1) (acc ++ [X]) = res) := by
          show _ = _
          rw [← HG.out, HFU.out, hX, ← HP.out]
          exact (con_img HTG.out hA.2 (by rw [HP.out]; exact hA.1.1) (by rw [HP.out]; exact hA.1.2)).symm
        have hXc : X.cells = Value.int .i64 p.index :: u8s p.body := by rw [hX]; rfl
        have hXl : X.cells.length = 49 := Img.cells_length (by rw [hX]; exact HPO.out.len)
        have c3 : x5.cell? ⟨BP, 2, none⟩ = some (.int .i64 p.index) := R5.out.cell 2 _ rfl
        have LB := R5.out.bod HPO.out.len
        have BI : Hid ((Instr.build 133 #[(0, .int .i64 p.index), (1, .agg (u8s p.body).toArray)]).run Tryz.prog x5 = .ok (.agg X.cells.toArray) x5) := by
          show _ = _
          rw [hXc]
          exact build_imgD p.index (u8s p.body) (by rw [u8s_length]; exact HPO.out.len) x5
        obtain ⟨x6, hx6⟩ : ∃ x, x5.alloc (.cells X.cells.toArray 133) = x := ⟨_, rfl⟩
        have SB : Hid ((Instr.buildSlice 130 1 #[(0, .agg X.cells.toArray)]).run Tryz.prog x5 = .ok (.slice (some ⟨x5.heap.size, 0, none⟩) 1 1) x6) := by show _ = _; rw [← hx6]; exact slice_imgD x5 _ hXl
        have b6 : Below x5.heap.size x5 x6 := by rw [← hx6]; exact below_new x5 _
        have hI6 := own_below HI5.out b6
        have hM6 : M ≤ x6.heap.size := Nat.le_trans HM5.out.2 b6.size
        obtain ⟨v7, x7, r7, o7, g7, -⟩ := append_imgD M x6 (.slice ri k ci) (imgR acc) X.cells x5.heap.size (by rw [HIL.out]; exact hI6) hXl (Img.cells_one X) (row_range (t := 133) (by rw [← hx6]; exact heap_alloc_new x5 _)) (by rw [HIL.out]; omega) hM6
        have e7 : imgR acc ++ [X.cells] = imgR (acc ++ [X]) := by unfold imgR; rw [List.map_append]; rfl
        rw [e7] at o7
        have R7 := Lib.hid r7
        have HL7 := Lib.hid ((HL5.out.below b6).grown g7 (row_ne hI6 (HL5.out.below b6) (by decide)))
        have HZ7 := Lib.hid ((HZ5.out.below b6).grown g7 (row_ne hI6 (HZ5.out.below b6) (by decide)))
        have HT7 := Lib.hid ((HT5.out.below b6).grownI hI6 g7)
        have HI7 := Lib.hid o7
        have hb6 : Below w.heap.size w x6 := HB5.out.trans (b6.mono HB5.out.size)
        have HB7 : Hid (Below w.heap.size w x7) := hb6.grown g7 hb6.size (fun j e => Nat.le_trans HM5.out.1 (hI6.lt j e).1)
        have HM7 : Hid (w.heap.size ≤ M ∧ M ≤ x7.heap.size) := ⟨HM5.out.1, Nat.le_trans hM6 g7.size⟩
        have HA7 : Hid ((acc ++ [X]).length = k + 1) := by show _ = _; rw [List.length_append, HAC.out]; rfl
        have HPM7 : Hid ((P + 1) % C = (A' + (k + 1)) % C) := by show _ = _; rw [Nat.add_mod, HPM.out, ← Nat.add_mod, Nat.add_assoc]
        obtain ⟨r8, c8, hv8, -⟩ := row_lenT o7
        rw [imgR_length, HA7.out] at hv8
        subst hv8
        have HLN7 : Hid (lenAt x7 B = ts.length) := by show lenAt x7 B = _; unfold lenAt; rw [HL7.out.cell 0 _ rfl]
        clear hA hX hXc hXl hx6 b6 hI6 hM6 r7 o7 g7 e7 hb6 L5
        go_wp2_with (first | ((with_reducible refine gate_struct 133 ?_); refine wpList_struct_run _ _ rfl rfl [(0, .int .i64 p.index), (1, .agg (u8s p.body).toArray)] _ rfl BI.out ?_) | ((with_reducible refine gate_build ?_); refine wpList_build_run _ _ _ rfl rfl [(0, .agg X.cells.toArray)] _ rfl SB.out ?_) | (at_builtin; refine wpList_append_run (.tmp 67) (.tmp 73) 130 rfl rfl _ _ _ rfl rfl R7.out ?_))
        go_roundw
        case rel => exact ⟨ts, A', q, k + 1, acc ++ [X], _, P + 1, M, hk, hA', hk1, fun _ => hlt, by omega, by go_num, HQ, HA7, HPM7, HZ7, HL7, HT7, HI7, HM7, HB7, HGN⟩
        case measure =>
          rw [HLN7.out, HLN.out]
          show _ + (C - (k + 1)) < _ + (C - k)
          omega
      · have HNA := Lib.hid hA
        have hcase : z = false ∨ (z = true ∧ ¬ k + 1 < C) := by
          cases hzc : z with
          | false => exact .inl rfl
          | true =>
            right
            refine ⟨rfl, fun hk1 => hA ⟨?_, hk1⟩⟩
            have := HZZ.out
            rw [hzc] at this
            simpa using this
        clear hA
        rcases hcase with hz | ⟨hz, hk1⟩
        · subst hz
          by_cases hk0' : 0 < k
          · have g3 : decide (0 < (k : Int)) = true := by simp; omega
            have g3' : decide ((k : Int) > 0) = true := g3
            have KP : ∀ x : Ext x5, (loadVar 189 ⟨BP, 0, none⟩).run Tryz.prog x.1 = .ok (.agg p.cells.toArray) x.1 := fun x => (R5.out.below x.2).pg HPO.out.len
            have KQ : ∀ x : Ext x5, x.1.cell? ⟨B, 2, none⟩ = some (.int .u32 q) := fun x => (HL5.out.below x.2).cell 2 _ rfl
            have KE : ∀ x : Ext x5, (Op.equalIn 10000 189 (.agg p.cells.toArray) (.agg (comSct q k).cells.toArray)).run Tryz.prog x.1 = .ok (sameS p (comSct q k)) x.1 := fun x => eq_sec HPO.out.len (by simp [comSct]) x.1
            have KC : Hid (∀ x : Ext x5, Calls Tryz.prog 125 #[.int .u32 q, .int .i64 (k : Int)] x.1 fun e w'' => e = .returned (.agg (comSct q k).cells.toArray) ∧ ∃ y : Ext x5, w'' = y.1) := fun x => calls_ext x (rgCommit q k x.1)
            obtain ⟨y, hy⟩ : ∃ y, sameS p (comSct q k) = y := ⟨_, rfl⟩
            rw [hy] at KE
            go_wp2_with fail
            refine region_ext (by kernel_rfl) (by kernel_rfl) ?_
            repeat (go_big_quiet_step (with_reducible (first | exact KC.out _)))
            refine wpQuiet_nil ?_
            intro x
            clear KP KQ KE KC L5
            cases y with
            | true =>
              have hpe : p = comSct q k := sameS_iff.1 hy
              have hb0 := x.2
              obtain ⟨y0, hy0⟩ : ∃ y0, x.1 = y0 := ⟨_, rfl⟩
              rw [hy0] at hb0 ⊢
              have hL0 := HL5.out.below hb0
              have hZ0 := HZ5.out.below hb0
              have hT0 := HT5.out.below hb0
              have hI0 := own_below HI5.out hb0
              have hB0 : Below w.heap.size w y0 := HB5.out.trans (hb0.mono HB5.out.size)
              have hM0 : M ≤ y0.heap.size := Nat.le_trans HM5.out.2 hb0.size
              have c0 : y0.cell? ⟨B, 0, none⟩ = some (.slice ra ts.length c) := hL0.cell 0 _ rfl
              obtain ⟨A2, hA2'⟩ : ∃ n, (A' + k + 1) % C = n := ⟨_, rfl⟩
              have hA2l : A2 < C := by rw [← hA2']; exact Nat.mod_lt _ (by omega)
              have hP2 : (P + 1) % C = A2 := by rw [Nat.add_mod, HPM.out, ← Nat.add_mod, hA2']
              have hA2 : ((P : Int) + 1) % (C : Int) = (A2 : Int) := by rw [← hP2, Int.natCast_emod]; norm_cast
              obtain ⟨q2, hq2⟩ : ∃ n, (q + 1) % 4294967296 = n := ⟨_, rfl⟩
              have hq2s : Hid (IsSeq q2) := by show IsSeq q2; unfold IsSeq; omega
              have HGN : Hid (conGo rd F C (C - (ts ++ [acc]).length) (ts ++ [acc]) A2 q2 0 [] = res) := by
                show _ = _
                rw [con_start, ← HG.out, HFU.out, con_com HTG.out hkC hk0' HAC.out (by rw [HP.out]; exact hpe), hA2', hq2, List.length_append]
                rfl
              obtain ⟨y1, hy1⟩ : ∃ y, y0.alloc (.cells #[.slice ri k ci] 130) = y := ⟨_, rfl⟩
              have SB : Hid ((Instr.buildSlice 155 1 #[(0, .slice ri k ci)]).run Tryz.prog y0 = .ok (.slice (some ⟨y0.heap.size, 0, none⟩) 1 1) y1) := by show _ = _; rw [← hy1]; exact slice_slsD y0 _ _ _
              have b1 : Below y0.heap.size y0 y1 := by rw [← hy1]; exact below_new y0 _
              have rN : RowC y1 y0.heap.size 130 [.slice ri k ci] := by rw [← hy1]; exact RowC.new y0 _ _
              have hT1 := hT0.below b1
              have hI1 := own_below hI0 b1
              obtain ⟨v2, y2, r2, t2, g2⟩ := append_slsM (t := acc) (a := ri) (c := ci) (B := y0.heap.size) hT1 (by rw [HAC.out]; exact hI1) HM5.out.1 (Nat.le_trans hM0 b1.size) (by rw [HAC.out]; exact rN) (by omega)
              have hB1 : Below w.heap.size w y1 := hB0.trans (b1.mono hB0.size)
              obtain ⟨_, hw1, hw2, _⟩ := hT1
              rw [hw1] at hw2
              have hB2 : Below w.heap.size w y2 := hB1.grown g2 hB1.size (fun j e => (hw2.lt j e).1)
              have L2 := (hL0.below b1).grown g2 (row_ne hw2 (hL0.below b1) (by decide))
              have Z2 := (hZ0.below b1).grown g2 (row_ne hw2 (hZ0.below b1) (by decide))
              have hvv : ∃ ra' c', v2 = .slice ra' (ts.length + 1) c' := by
                obtain ⟨vs', hv1, hv2, _⟩ := t2
                obtain ⟨ra', c', rfl, -⟩ := row_lenT hv2
                rw [hv1, List.length_append]
                exact ⟨ra', c', rfl⟩
              obtain ⟨ra', c', rfl⟩ := hvv
              have R2 := Lib.hid r2
              obtain ⟨x4, hx4⟩ : ∃ x, y2.setCell ⟨B, 0, none⟩ (.slice ra' (ts.length + 1) c') = x := ⟨_, rfl⟩
              obtain ⟨x7, hx7⟩ : ∃ x, x4.setCell ⟨B, 1, none⟩ (.int .i64 (A2 : Int)) = x := ⟨_, rfl⟩
              obtain ⟨x6, hx6⟩ : ∃ x, x7.setCell ⟨B, 2, none⟩ (.int .u32 q2) = x := ⟨_, rfl⟩
              have L4 : RowC x4 B 157 (logD (.slice ra' (ts.length + 1) c') A' q) := by rw [← hx4]; exact L2.set 0 _
              have L7 : RowC x7 B 157 (logD (.slice ra' (ts.length + 1) c') A2 q) := by rw [← hx7]; exact L4.set 1 _
              have L6 : RowC x6 B 157 (logD (.slice ra' (ts.length + 1) c') A2 q2) := by rw [← hx6]; exact L7.set 2 _
              have G4 : y2.grownBy x4 (some B) := by rw [← hx4]; exact grownBy_setCellJ y2 B 0 _
              have G7 : x4.grownBy x7 (some B) := by rw [← hx7]; exact grownBy_setCellJ x4 B 1 _
              have G6 : x7.grownBy x6 (some B) := by rw [← hx6]; exact grownBy_setCellJ x7 B 2 _
              have G := (G4.trans G7).trans G6
              have T6 := Lib.hid (t2.grownC L2 (by decide) (by decide) G)
              have hBw : w.heap.size ≤ B := Nat.le_of_lt hne
              have B6 : Hid (Below w.heap.size w x6) := hB2.grown G hB2.size (fun j e => by cases e; exact hBw)
              have Z6 := Lib.hid (Z2.grown G (by simpa using fun e => Nat.ne_of_gt hne e))
              have L6' := Lib.hid L6
              have M6 : Hid (w.heap.size ≤ y1.heap.size ∧ y1.heap.size ≤ x6.heap.size) := ⟨hB1.size, Nat.le_trans g2.size G.size⟩
              have d0 : y2.cell? ⟨B, 0, none⟩ = some (.slice ra ts.length c) := L2.cell 0 _ rfl
              have d0' := L2.frozen 0
              have d1 : x4.cell? ⟨B, 1, none⟩ = some (.int .i64 (A' : Int)) := L4.cell 1 _ rfl
              have d1' := L4.frozen 1
              have d2 : x7.cell? ⟨B, 2, none⟩ = some (.int .u32 q) := L7.cell 2 _ rfl
              have d2' := L7.frozen 2
              have HLN6 : Hid (lenAt x6 B = ts.length + 1) := by show lenAt x6 B = _; unfold lenAt; rw [L6.cell 0 _ rfl]
              have HPM6 : Hid ((P + 1) % C = (A2 + 0) % C) := by show _ = _; rw [hP2, Nat.add_zero, Nat.mod_eq_of_lt hA2l]
              have hCz : ¬ ((C : Int) = 0) := by omega
              clear hpe hy hb0 hL0 hZ0 hT0 hI0 hB0 hM0 hA2' hP2 hy1 b1 rN hI1 t2 g2 hw1 hw2 hB1 hB2 L2 Z2 r2 L4 L7 L6 G4 G7 G6 G hy0
              go_wp2_with (first | ((with_reducible refine gate_build ?_); refine wpList_build_run _ _ _ rfl rfl [(0, .slice ri k ci)] _ rfl SB.out ?_) | (at_builtin; refine wpList_append_run (.tmp 89) (.tmp 91) 155 rfl rfl _ _ _ rfl rfl R2.out ?_))
              go_roundw
              case rel => exact ⟨ts ++ [acc], A2, q2, 0, [], _, P + 1, y1.heap.size, by rw [List.length_append]; simp; omega, hA2l, by omega, fun h => absurd h (by omega), by rw [List.length_append]; simp; omega, by go_num, hq2s, rfl, HPM6, Z6, L6', T6, World.ownsRow_nil _ _ _ _, M6, B6, HGN⟩
              case measure =>
                rw [HLN6.out, HLN.out]
                have e : C - ts.length = (C - (ts.length + 1)) + 1 := by omega
                show (C - (ts.length + 1)) * (C + 1) + (C - 0) < (C - ts.length) * (C + 1) + (C - k)
                rw [e, Nat.add_mul]
                omega
            | false =>
              have hst : res = (ts, A', q) := by
                rw [← HG.out, HFU.out]
                exact con_stop HTG.out hkC (by rw [HP.out]; exact HNA.out) (by rw [HP.out]; rintro ⟨_, h2⟩; rw [sameS_iff.2 h2] at hy; cases hy)
              subst hst
              have hb0 := x.2
              obtain ⟨y0, hy0⟩ : ∃ y0, x.1 = y0 := ⟨_, rfl⟩
              rw [hy0] at hb0 ⊢
              have hL0 := HL5.out.below hb0
              have hZ0 := HZ5.out.below hb0
              have LL := load_logD hL0
              obtain ⟨y2, ST, hy2, hg⟩ := store_logD (v := .slice ra ts.length c) (a := A') (q := q) hZ0 rfl rfl
              have LY := load_logD hy2
              have hty : Hid (TxnsR 130 133 y2 w.heap.size (.slice ra ts.length c) ts) := ((HT5.out.below hb0).grownC hZ0 (by decide) (by decide) hg).toR
              have hbb := HB5.out.trans (hb0.mono HB5.out.size)
              have hby : Hid (Below w.heap.size w y2) := hbb.grown hg hbb.size (fun j e => by cases e; exact Nat.le_refl _)
              clear hg hbb hL0 hZ0 hb0 hy0 hy2
              go_wp2_with fail
              try rw [Exit.noGoto_ret]
              refine bodyPost_ret (results_cell2 rfl rfl LY) rfl ⟨⟨_, rfl, hty.out⟩, hby.out⟩
          · have g3 : decide (0 < (k : Int)) = false := by simp; omega
            have g3' : decide ((k : Int) > 0) = false := g3
            go_wp2_with fail
            refine region_ext (by kernel_rfl) (by kernel_rfl) ?_
            repeat (go_big_quiet_step (fail))
            refine wpQuiet_nil ?_
            intro x
            have hst : res = (ts, A', q) := by
              rw [← HG.out, HFU.out]
              exact con_stop HTG.out hkC (by rw [HP.out]; exact HNA.out) (by rintro ⟨h1, _⟩; exact hk0' h1)
            subst hst
            have hb0 := x.2
            obtain ⟨y0, hy0⟩ : ∃ y0, x.1 = y0 := ⟨_, rfl⟩
            rw [hy0] at hb0 ⊢
            have hL0 := HL5.out.below hb0
            have hZ0 := HZ5.out.below hb0
            have LL := load_logD hL0
            obtain ⟨y2, ST, hy2, hg⟩ := store_logD (v := .slice ra ts.length c) (a := A') (q := q) hZ0 rfl rfl
            have LY := load_logD hy2
            have hty : Hid (TxnsR 130 133 y2 w.heap.size (.slice ra ts.length c) ts) := ((HT5.out.below hb0).grownC hZ0 (by decide) (by decide) hg).toR
            have hbb := HB5.out.trans (hb0.mono HB5.out.size)
            have hby : Hid (Below w.heap.size w y2) := hbb.grown hg hbb.size (fun j e => by cases e; exact Nat.le_refl _)
            clear hg hbb hL0 hZ0 hb0 hy0 hy2
            go_wp2_with fail
            try rw [Exit.noGoto_ret]
            refine bodyPost_ret (results_cell2 rfl rfl LY) rfl ⟨⟨_, rfl, hty.out⟩, hby.out⟩
        · subst hz
          have g2 : decide ((k : Int) < (C : Int) - 1) = false := by simp; omega
          by_cases hk0' : 0 < k
          · have g3 : decide (0 < (k : Int)) = true := by simp; omega
            have g3' : decide ((k : Int) > 0) = true := g3
            have KP : ∀ x : Ext x5, (loadVar 189 ⟨BP, 0, none⟩).run Tryz.prog x.1 = .ok (.agg p.cells.toArray) x.1 := fun x => (R5.out.below x.2).pg HPO.out.len
            have KQ : ∀ x : Ext x5, x.1.cell? ⟨B, 2, none⟩ = some (.int .u32 q) := fun x => (HL5.out.below x.2).cell 2 _ rfl
            have KE : ∀ x : Ext x5, (Op.equalIn 10000 189 (.agg p.cells.toArray) (.agg (comSct q k).cells.toArray)).run Tryz.prog x.1 = .ok (sameS p (comSct q k)) x.1 := fun x => eq_sec HPO.out.len (by simp [comSct]) x.1
            have KC : Hid (∀ x : Ext x5, Calls Tryz.prog 125 #[.int .u32 q, .int .i64 (k : Int)] x.1 fun e w'' => e = .returned (.agg (comSct q k).cells.toArray) ∧ ∃ y : Ext x5, w'' = y.1) := fun x => calls_ext x (rgCommit q k x.1)
            obtain ⟨y, hy⟩ : ∃ y, sameS p (comSct q k) = y := ⟨_, rfl⟩
            rw [hy] at KE
            go_wp2_with fail
            refine region_ext (by kernel_rfl) (by kernel_rfl) ?_
            repeat (go_big_quiet_step (with_reducible (first | exact KC.out _)))
            refine wpQuiet_nil ?_
            intro x
            clear KP KQ KE KC L5
            cases y with
            | true =>
              have hpe : p = comSct q k := sameS_iff.1 hy
              have hb0 := x.2
              obtain ⟨y0, hy0⟩ : ∃ y0, x.1 = y0 := ⟨_, rfl⟩
              rw [hy0] at hb0 ⊢
              have hL0 := HL5.out.below hb0
              have hZ0 := HZ5.out.below hb0
              have hT0 := HT5.out.below hb0
              have hI0 := own_below HI5.out hb0
              have hB0 : Below w.heap.size w y0 := HB5.out.trans (hb0.mono HB5.out.size)
              have hM0 : M ≤ y0.heap.size := Nat.le_trans HM5.out.2 hb0.size
              have c0 : y0.cell? ⟨B, 0, none⟩ = some (.slice ra ts.length c) := hL0.cell 0 _ rfl
              obtain ⟨A2, hA2'⟩ : ∃ n, (A' + k + 1) % C = n := ⟨_, rfl⟩
              have hA2l : A2 < C := by rw [← hA2']; exact Nat.mod_lt _ (by omega)
              have hP2 : (P + 1) % C = A2 := by rw [Nat.add_mod, HPM.out, ← Nat.add_mod, hA2']
              have hA2 : ((P : Int) + 1) % (C : Int) = (A2 : Int) := by rw [← hP2, Int.natCast_emod]; norm_cast
              obtain ⟨q2, hq2⟩ : ∃ n, (q + 1) % 4294967296 = n := ⟨_, rfl⟩
              have hq2s : Hid (IsSeq q2) := by show IsSeq q2; unfold IsSeq; omega
              have HGN : Hid (conGo rd F C (C - (ts ++ [acc]).length) (ts ++ [acc]) A2 q2 0 [] = res) := by
                show _ = _
                rw [con_start, ← HG.out, HFU.out, con_com HTG.out hkC hk0' HAC.out (by rw [HP.out]; exact hpe), hA2', hq2, List.length_append]
                rfl
              obtain ⟨y1, hy1⟩ : ∃ y, y0.alloc (.cells #[.slice ri k ci] 130) = y := ⟨_, rfl⟩
              have SB : Hid ((Instr.buildSlice 155 1 #[(0, .slice ri k ci)]).run Tryz.prog y0 = .ok (.slice (some ⟨y0.heap.size, 0, none⟩) 1 1) y1) := by show _ = _; rw [← hy1]; exact slice_slsD y0 _ _ _
              have b1 : Below y0.heap.size y0 y1 := by rw [← hy1]; exact below_new y0 _
              have rN : RowC y1 y0.heap.size 130 [.slice ri k ci] := by rw [← hy1]; exact RowC.new y0 _ _
              have hT1 := hT0.below b1
              have hI1 := own_below hI0 b1
              obtain ⟨v2, y2, r2, t2, g2⟩ := append_slsM (t := acc) (a := ri) (c := ci) (B := y0.heap.size) hT1 (by rw [HAC.out]; exact hI1) HM5.out.1 (Nat.le_trans hM0 b1.size) (by rw [HAC.out]; exact rN) (by omega)
              have hB1 : Below w.heap.size w y1 := hB0.trans (b1.mono hB0.size)
              obtain ⟨_, hw1, hw2, _⟩ := hT1
              rw [hw1] at hw2
              have hB2 : Below w.heap.size w y2 := hB1.grown g2 hB1.size (fun j e => (hw2.lt j e).1)
              have L2 := (hL0.below b1).grown g2 (row_ne hw2 (hL0.below b1) (by decide))
              have Z2 := (hZ0.below b1).grown g2 (row_ne hw2 (hZ0.below b1) (by decide))
              have hvv : ∃ ra' c', v2 = .slice ra' (ts.length + 1) c' := by
                obtain ⟨vs', hv1, hv2, _⟩ := t2
                obtain ⟨ra', c', rfl, -⟩ := row_lenT hv2
                rw [hv1, List.length_append]
                exact ⟨ra', c', rfl⟩
              obtain ⟨ra', c', rfl⟩ := hvv
              have R2 := Lib.hid r2
              obtain ⟨x4, hx4⟩ : ∃ x, y2.setCell ⟨B, 0, none⟩ (.slice ra' (ts.length + 1) c') = x := ⟨_, rfl⟩
              obtain ⟨x7, hx7⟩ : ∃ x, x4.setCell ⟨B, 1, none⟩ (.int .i64 (A2 : Int)) = x := ⟨_, rfl⟩
              obtain ⟨x6, hx6⟩ : ∃ x, x7.setCell ⟨B, 2, none⟩ (.int .u32 q2) = x := ⟨_, rfl⟩
              have L4 : RowC x4 B 157 (logD (.slice ra' (ts.length + 1) c') A' q) := by rw [← hx4]; exact L2.set 0 _
              have L7 : RowC x7 B 157 (logD (.slice ra' (ts.length + 1) c') A2 q) := by rw [← hx7]; exact L4.set 1 _
              have L6 : RowC x6 B 157 (logD (.slice ra' (ts.length + 1) c') A2 q2) := by rw [← hx6]; exact L7.set 2 _
              have G4 : y2.grownBy x4 (some B) := by rw [← hx4]; exact grownBy_setCellJ y2 B 0 _
              have G7 : x4.grownBy x7 (some B) := by rw [← hx7]; exact grownBy_setCellJ x4 B 1 _
              have G6 : x7.grownBy x6 (some B) := by rw [← hx6]; exact grownBy_setCellJ x7 B 2 _
              have G := (G4.trans G7).trans G6
              have T6 := Lib.hid (t2.grownC L2 (by decide) (by decide) G)
              have hBw : w.heap.size ≤ B := Nat.le_of_lt hne
              have B6 : Hid (Below w.heap.size w x6) := hB2.grown G hB2.size (fun j e => by cases e; exact hBw)
              have Z6 := Lib.hid (Z2.grown G (by simpa using fun e => Nat.ne_of_gt hne e))
              have L6' := Lib.hid L6
              have M6 : Hid (w.heap.size ≤ y1.heap.size ∧ y1.heap.size ≤ x6.heap.size) := ⟨hB1.size, Nat.le_trans g2.size G.size⟩
              have d0 : y2.cell? ⟨B, 0, none⟩ = some (.slice ra ts.length c) := L2.cell 0 _ rfl
              have d0' := L2.frozen 0
              have d1 : x4.cell? ⟨B, 1, none⟩ = some (.int .i64 (A' : Int)) := L4.cell 1 _ rfl
              have d1' := L4.frozen 1
              have d2 : x7.cell? ⟨B, 2, none⟩ = some (.int .u32 q) := L7.cell 2 _ rfl
              have d2' := L7.frozen 2
              have HLN6 : Hid (lenAt x6 B = ts.length + 1) := by show lenAt x6 B = _; unfold lenAt; rw [L6.cell 0 _ rfl]
              have HPM6 : Hid ((P + 1) % C = (A2 + 0) % C) := by show _ = _; rw [hP2, Nat.add_zero, Nat.mod_eq_of_lt hA2l]
              have hCz : ¬ ((C : Int) = 0) := by omega
              clear hpe hy hb0 hL0 hZ0 hT0 hI0 hB0 hM0 hA2' hP2 hy1 b1 rN hI1 t2 g2 hw1 hw2 hB1 hB2 L2 Z2 r2 L4 L7 L6 G4 G7 G6 G hy0
              go_wp2_with (first | ((with_reducible refine gate_build ?_); refine wpList_build_run _ _ _ rfl rfl [(0, .slice ri k ci)] _ rfl SB.out ?_) | (at_builtin; refine wpList_append_run (.tmp 89) (.tmp 91) 155 rfl rfl _ _ _ rfl rfl R2.out ?_))
              go_roundw
              case rel => exact ⟨ts ++ [acc], A2, q2, 0, [], _, P + 1, y1.heap.size, by rw [List.length_append]; simp; omega, hA2l, by omega, fun h => absurd h (by omega), by rw [List.length_append]; simp; omega, by go_num, hq2s, rfl, HPM6, Z6, L6', T6, World.ownsRow_nil _ _ _ _, M6, B6, HGN⟩
              case measure =>
                rw [HLN6.out, HLN.out]
                have e : C - ts.length = (C - (ts.length + 1)) + 1 := by omega
                show (C - (ts.length + 1)) * (C + 1) + (C - 0) < (C - ts.length) * (C + 1) + (C - k)
                rw [e, Nat.add_mul]
                omega
            | false =>
              have hst : res = (ts, A', q) := by
                rw [← HG.out, HFU.out]
                exact con_stop HTG.out hkC (by rw [HP.out]; exact HNA.out) (by rw [HP.out]; rintro ⟨_, h2⟩; rw [sameS_iff.2 h2] at hy; cases hy)
              subst hst
              have hb0 := x.2
              obtain ⟨y0, hy0⟩ : ∃ y0, x.1 = y0 := ⟨_, rfl⟩
              rw [hy0] at hb0 ⊢
              have hL0 := HL5.out.below hb0
              have hZ0 := HZ5.out.below hb0
              have LL := load_logD hL0
              obtain ⟨y2, ST, hy2, hg⟩ := store_logD (v := .slice ra ts.length c) (a := A') (q := q) hZ0 rfl rfl
              have LY := load_logD hy2
              have hty : Hid (TxnsR 130 133 y2 w.heap.size (.slice ra ts.length c) ts) := ((HT5.out.below hb0).grownC hZ0 (by decide) (by decide) hg).toR
              have hbb := HB5.out.trans (hb0.mono HB5.out.size)
              have hby : Hid (Below w.heap.size w y2) := hbb.grown hg hbb.size (fun j e => by cases e; exact Nat.le_refl _)
              clear hg hbb hL0 hZ0 hb0 hy0 hy2
              go_wp2_with fail
              try rw [Exit.noGoto_ret]
              refine bodyPost_ret (results_cell2 rfl rfl LY) rfl ⟨⟨_, rfl, hty.out⟩, hby.out⟩
          · have g3 : decide (0 < (k : Int)) = false := by simp; omega
            have g3' : decide ((k : Int) > 0) = false := g3
            go_wp2_with fail
            refine region_ext (by kernel_rfl) (by kernel_rfl) ?_
            repeat (go_big_quiet_step (fail))
            refine wpQuiet_nil ?_
            intro x
            have hst : res = (ts, A', q) := by
              rw [← HG.out, HFU.out]
              exact con_stop HTG.out hkC (by rw [HP.out]; exact HNA.out) (by rintro ⟨h1, _⟩; exact hk0' h1)
            subst hst
            have hb0 := x.2
            obtain ⟨y0, hy0⟩ : ∃ y0, x.1 = y0 := ⟨_, rfl⟩
            rw [hy0] at hb0 ⊢
            have hL0 := HL5.out.below hb0
            have hZ0 := HZ5.out.below hb0
            have LL := load_logD hL0
            obtain ⟨y2, ST, hy2, hg⟩ := store_logD (v := .slice ra ts.length c) (a := A') (q := q) hZ0 rfl rfl
            have LY := load_logD hy2
            have hty : Hid (TxnsR 130 133 y2 w.heap.size (.slice ra ts.length c) ts) := ((HT5.out.below hb0).grownC hZ0 (by decide) (by decide) hg).toR
            have hbb := HB5.out.trans (hb0.mono HB5.out.size)
            have hby : Hid (Below w.heap.size w y2) := hbb.grown hg hbb.size (fun j e => by cases e; exact Nat.le_refl _)
            clear hg hbb hL0 hZ0 hb0 hy0 hy2
            go_wp2_with fail
            try rw [Exit.noGoto_ret]
            refine bodyPost_ret (results_cell2 rfl rfl LY) rfl ⟨⟨_, rfl, hty.out⟩, hby.out⟩
    · have hk00 : k = 0 := by
        rcases Nat.eq_zero_or_pos k with h | h
        · exact h
        · exact absurd (hk0 h) hlt
      have hst : res = (ts, A', q) := by
        rw [← HG.out, show C - ts.length = 0 by omega]
        rfl
      subst hst
      have g1 : decide ((ts.length : Int) < (C : Int)) = false := by simp; omega
      have LL := load_logD HL.out
      obtain ⟨y2, ST, hy2, hg⟩ := store_logD (v := .slice ra ts.length c) (a := A') (q := q) HZ.out rfl rfl
      have LY := load_logD hy2
      have hty : Hid (TxnsR 130 133 y2 w.heap.size (.slice ra ts.length c) ts) := (HT.out.grownC HZ.out (by decide) (by decide) hg).toR
      have hby : Hid (Below w.heap.size w y2) := HB.out.grown hg HB.out.size (fun j e => by cases e; exact Nat.le_refl _)
      clear hg hy2
      go_wp2_with fail
      try rw [Exit.noGoto_ret]
      refine bodyPost_ret (results_cell2 rfl rfl LY) rfl ⟨⟨_, rfl, hty.out⟩, hby.out⟩
end Go.Proofs.YtbdfllamhcodjaaGreat

/- The developers' ring keeps its promises. -/
namespace Go.Proofs.YtbdfllamhcodjaaGreat
open Go.RowKit
set_option linter.unusedVariables false

theorem ringOk : RingOk where
  replay := fun h hby hup _ _ _ hC2 hC hF hA hn _ hs => rgReplay h hby hup hC2 hC hF hA hn hs
  replay_no := fun h hn _ _ _ _ hm => rgReplay_no0 hn (fun x hx => (h.beside hx).len 0) hm
  replay_nil := fun frm count at0 seq w => rgReplay_no0 (n0 := 0) (by omega) (fun x _ => nil_len 0 x) (by unfold mayR; exact decide_eq_false (by omega))
  append := fun h hfu hd0 hd1 hf _ _ _ hC2 hC hF hA hn _ hs _ ht _ _ hg hgl hgf => rgAppend h hfu hd0 hd1 hf hC2 hC hF hA hn hs ht hg hgl hgf
  append_no := fun h hn _ _ _ _ hm _ _ _ _ => rgAppend_no h hn hm
  append_nil := fun frm count at0 seq w _ _ _ _ => rgAppend_nil frm count at0 seq w
  append_long := fun h hn _ _ _ hC2 hC hF hA _ _ _ _ hl hnb => rgAppend_long h hn hC2 hC hF hA hl hnb
  append_bad := fun h hn _ _ _ hC2 hC hF hA _ hs _ n1 n2 hok hbad _ _ hg hgl => rgAppend_bad h hn hC2 hC hF hA hs n1 n2 hok hbad hg hgl
end Go.Proofs.YtbdfllamhcodjaaGreat

