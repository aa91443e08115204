/- Plain facts for the laws of chains: what changed by way of a third, what is held; what Drop and Cut leave. -/
import Derived.Test.YtiidfffedoekiaaChTp
import Derived.Deep.Cut
namespace Go.Proofs.Ytiidfffedoekiaa
open Go.RowKit Go.Shelf
set_option linter.unusedVariables false
theorem bit_none (c : Nat) : bitAt [] c = false := by simp [bitAt]
theorem chB_bit (c : Nat) : ∀ (l : List SN), bitAt (chB l) c = l.any fun s => bitAt s.ch c := by
  have key : ∀ (l : List SN) (a : List Int), bitAt (l.foldl (fun a s => orB a s.ch) a) c = (bitAt a c || l.any fun s => bitAt s.ch c) := by
    intro l
    induction l with
    | nil => intro a; simp
    | cons s l ih => intro a; rw [List.foldl_cons, ih, or_bit, List.any_cons, Bool.or_assoc]
  intro l
  unfold chB
  rw [key, bit_none, Bool.false_or]
theorem chB_max : ∀ (l : List SN), (chB l).length = (l.map fun s => s.ch.length).foldl max 0 := by
  have key : ∀ (l : List SN) (a : List Int), (l.foldl (fun a s => orB a s.ch) a).length = (l.map fun s => s.ch.length).foldl max a.length := by
    intro l
    induction l with
    | nil => intro a; rfl
    | cons s l ih => intro a; rw [List.foldl_cons, ih, or_length, List.map_cons, List.foldl_cons]
  intro l
  exact key l []
theorem foldl_max : ∀ (l : List Nat) (a b : Nat), l.foldl max (max a b) = max a (l.foldl max b)
  | [], _, _ => rfl
  | x :: l, a, b => by rw [List.foldl_cons, List.foldl_cons, Nat.max_assoc]; exact foldl_max l a (max b x)
theorem chB_append {a b : List SN} (ha : ∀ s ∈ a, IsBytes s.ch) (hb : ∀ s ∈ b, IsBytes s.ch) : orB (chB a) (chB b) = chB (a ++ b) := by
  refine bits_ext (or_bytes (chB_bytes a ha) (chB_bytes b hb)) (chB_bytes _ fun s hs => by rcases List.mem_append.1 hs with h | h; exact ha s h; exact hb s h) ?_ fun i => ?_
  · rw [or_length, chB_max, chB_max, chB_max, List.map_append, List.foldl_append, ← foldl_max, Nat.max_zero]
  · rw [or_bit, chB_bit, chB_bit, chB_bit, List.any_append]
theorem chg_seg {l : List SN} {i k : Nat} (hk : k < l.length) : cChg l (i : Int) (k : Int) = chB ((l.take k).drop i) := by
  unfold cChg
  rw [show hiOf l (k : Int) = k from by unfold hiOf; rw [if_pos (by omega), Int.toNat_natCast], show loOf (i : Int) = i from by unfold loOf; rw [Int.toNat_natCast]]
theorem chg_both {l : List SN} (hl : ∀ s ∈ l, IsBytes s.ch) {i j k : Nat} (hij : i ≤ j) (hjk : j ≤ k) (hk : k < l.length) : orB (cChg l (i : Int) (j : Int)) (cChg l (j : Int) (k : Int)) = cChg l (i : Int) (k : Int) := by
  rw [chg_seg (by omega), chg_seg hk, chg_seg hk]
  have hs : (l.take k).drop i = (l.take j).drop i ++ (l.take k).drop j := by
    have h1 := (List.take_append_drop (j - i) ((l.take k).drop i)).symm
    rw [List.drop_drop, show i + (j - i) = j from by omega] at h1
    rw [h1]
    congr 1
    rw [List.take_drop, List.take_take]
    congr 2
    omega
  rw [hs]
  exact chB_append (fun s h => hl s (List.mem_of_mem_take (List.mem_of_mem_drop h))) (fun s h => hl s (List.mem_of_mem_take (List.mem_of_mem_drop h)))
theorem rise_at {l : List SN} {bl ar : Int} (h : cRise bl ar 0 l = true) : ∀ t : Nat, ∃ last, cRise bl ar last (l.drop t) = true
  | 0 => ⟨0, h⟩
  | t + 1 => by
    obtain ⟨last, ht⟩ := rise_at h t
    cases hs : l[t]? with
    | none =>
      have := List.getElem?_eq_none_iff.1 hs
      exact ⟨0, cRise_end (by omega) bl ar 0⟩
    | some s =>
      rw [cRise_at hs] at ht
      simp only [Bool.and_eq_true] at ht
      exact ⟨s.id, ht.2.2.2.2⟩
theorem good_at {l : List SN} {bl ar : Int} (h : cGood l bl ar = true) {t : Nat} {s : SN} (hs : l[t]? = some s) : fitS s bl ar = true ∧ (t + 1 < l.length → rF s = true) := by
  unfold cGood at h
  simp only [Bool.and_eq_true] at h
  obtain ⟨last, ht⟩ := rise_at h.2.1 t
  rw [cRise_at hs] at ht
  simp only [Bool.and_eq_true] at ht
  have hf := ht.2.2.1
  refine ⟨hf, fun hl => ?_⟩
  unfold fitS at hf
  simp only [Bool.and_eq_true, List.all_eq_true] at hf
  rw [← full_iff hf.2.1 hf.2.2]
  have h4 := ht.2.2.2.1
  rw [decide_eq_false (by omega), Bool.false_or] at h4
  exact h4
theorem good_table {l : List SN} {bl ar : Int} (h : cGood l bl ar = true) {t : Nat} {s : SN} (hs : l[t]? = some s) {p : Int × Int} (hp : p ∈ s.tb) : (tFind s.tb p.1).isSome = true ∧ tAt s.tb p.1 = p.2 := by
  have hf := (good_at h hs).1
  unfold fitS at hf
  simp only [Bool.and_eq_true] at hf
  exact ((tGood_iff _ _ _).1 hf.2.1).2.1.at hp
theorem first_some {l : List SN} {b : Int} : ∀ (n i t : Nat) (s : SN), t = i + n → l[t]? = some s → (tFind s.tb b).isSome = true → (firstT (l.drop i) b).isSome = true
  | 0, i, t, s, e, hs, hf => by
    obtain rfl : t = i := by omega
    rw [firstT_at hs, if_pos hf]; rfl
  | n + 1, i, t, s, e, hs, hf => by
    obtain ⟨u, hu⟩ : ∃ u, l[i]? = some u := ⟨_, List.getElem?_eq_getElem (by have := (List.getElem?_eq_some_iff.1 hs).1; omega)⟩
    rw [firstT_at hu]
    split
    · rfl
    · exact first_some n (i + 1) t s (by omega) hs hf
theorem held {l : List SN} {bl ar : Int} (h : cGood l bl ar = true) {i k : Nat} (hk : k < l.length) {c : Nat} (hc : c ∈ allB (cChg l (i : Int) (k : Int))) : (cHold l (i : Int) (c : Int)).isSome = true := by
  rw [chg_seg hk] at hc
  have hb := mem_all.1 hc
  rw [chB_bit, List.any_eq_true] at hb
  obtain ⟨s, hm, hs⟩ := hb
  obtain ⟨n, hn⟩ := List.getElem?_of_mem hm
  rw [List.getElem?_drop, List.getElem?_take] at hn
  split at hn
  · rename_i hlt
    have hF := (good_at h hn).2 (by omega)
    unfold rF at hF
    rw [List.all_eq_true] at hF
    have hf := hF c (mem_all.2 hs)
    unfold cHold
    rw [if_neg (by omega), Int.toNat_natCast]
    exact first_some n i (i + n) s rfl hn hf
  · cases hn
/-- A number from i up to len, drawn by n. -/
theorem idx_step {n : Int} (h0 : 0 ≤ n) {i len : Nat} (hi : i < len) (hl : len ≤ 12) : ∃ d j1 j : Nat, (len : Int) - (i : Int) = (d : Int) ∧ wrap64 ((len : Int) - (i : Int)) = (d : Int) ∧ ¬ ((d : Int) = 0) ∧ ((d : Int) == 0) = false ∧ n % (d : Int) = (j1 : Int) ∧ n.tmod (d : Int) = (j1 : Int) ∧ (i : Int) + (j1 : Int) = (j : Int) ∧ wrap64 ((i : Int) + (j1 : Int)) = (j : Int) ∧ i ≤ j ∧ j < len := by
  obtain ⟨d, rfl⟩ : ∃ d, len = i + d := ⟨len - i, by omega⟩
  have hd : ((i + d : Nat) : Int) - (i : Int) = (d : Int) := by omega
  have gdn : ¬ ((d : Int) = 0) := by omega
  have h1 := Int.emod_nonneg n gdn
  have h2 := Int.emod_lt_of_pos n (show (0 : Int) < (d : Int) by omega)
  have h3 := Int.tmod_eq_emod_of_nonneg (b := (d : Int)) h0
  obtain ⟨j1, hj1⟩ : ∃ j1 : Nat, n % (d : Int) = (j1 : Int) := ⟨(n % (d : Int)).toNat, (Int.toNat_of_nonneg h1).symm⟩
  rw [hj1] at h2 h3
  refine ⟨d, j1, i + j1, hd, by rw [hd]; exact IntWalk.wrap64_in _ (by omega), gdn, by simp; omega, hj1, h3, by omega, ?_, by omega, by omega⟩
  rw [show (i : Int) + (j1 : Int) = ((i + j1 : Nat) : Int) by omega]
  exact IntWalk.wrap64_in _ (by omega)
theorem idx_first {n : Int} (h0 : 0 ≤ n) {len : Nat} (hl : ¬ len = 0) : ∃ i : Nat, n % (len : Int) = (i : Int) ∧ n.tmod (len : Int) = (i : Int) ∧ i < len ∧ (0 : Int) < (len : Int) ∧ ¬ ((len : Int) = 0) ∧ ((len : Int) == 0) = false := by
  have gn : ¬ ((len : Int) = 0) := by omega
  have h1 := Int.emod_nonneg n gn
  have h2 := Int.emod_lt_of_pos n (show (0 : Int) < (len : Int) by omega)
  have h3 := Int.tmod_eq_emod_of_nonneg (b := (len : Int)) h0
  obtain ⟨i, hi⟩ : ∃ i : Nat, n % (len : Int) = (i : Int) := ⟨(n % (len : Int)).toNat, (Int.toNat_of_nonneg h1).symm⟩
  rw [hi] at h2 h3
  exact ⟨i, hi, h3, by omega, by omega, gn, by simp; omega⟩
set_option maxRecDepth 100000 in
theorem Arg.three {W : World} {t e : TypeId} {v : Value} {k : IntKind} (h : Arg W t v) (hu : Try.prog.underlying t = some (.array 3 e)) (he : Try.prog.underlying e = some (.int k)) (hc : Try.prog.cellsOf e = 1) (hs : Try.prog.cellsOf t = 3) :
    ∃ a b c, v = .agg #[.int k a, .int k b, .int k c] ∧ (Lit.int k a).wf = true ∧ (Lit.int k b).wf = true ∧ (Lit.int k c).wf = true := by
  obtain ⟨cs, rfl, hl, hcs⟩ := h.agg (.inr ⟨_, _, hu⟩)
  obtain ⟨_, hj⟩ := hcs.array hu
  rw [hs] at hl
  rw [hc] at hj
  match cs, hl with
  | [x, y, z], _ =>
    obtain ⟨a, e1, wa⟩ := (hj 0 (by omega)).int he
    obtain ⟨b, e2, wb⟩ := (hj 1 (by omega)).int he
    obtain ⟨c, e3, wc⟩ := (hj 2 (by omega)).int he
    simp at e1 e2 e3
    subst e1 e2 e3
    exact ⟨a, b, c, rfl, wa, wb, wc⟩
theorem rise_iff (bl ar : Int) : ∀ (l : List SN) (last : Int), cRise bl ar last l = true ↔ (∀ s ∈ l, last < s.id ∧ s.id ≤ 1000000 ∧ fitS s bl ar = true) ∧ l.Pairwise (fun s t => s.id < t.id) ∧ (∀ s ∈ l.dropLast, fullS s = true)
  | [], last => by simp [cRise]
  | s :: l, last => by
    rw [cRise_cons]
    simp only [Bool.and_eq_true, decide_eq_true_eq, Bool.or_eq_true]
    rw [rise_iff bl ar l s.id, List.pairwise_cons]
    cases l with
    | nil => simp
    | cons t l =>
      rw [show (s :: t :: l).dropLast = s :: (t :: l).dropLast from rfl]
      constructor
      · rintro ⟨h1, h2, h3, h4, h5, h6, h7⟩
        refine ⟨fun u hu => ?_, ⟨fun u hu => (h5 u hu).1, h6⟩, fun u hu => ?_⟩
        · rcases List.mem_cons.1 hu with rfl | hu
          · exact ⟨h1, h2, h3⟩
          · have := h5 u hu; exact ⟨by omega, this.2⟩
        · rcases List.mem_cons.1 hu with rfl | hu
          · rcases h4 with h4 | h4
            · simp at h4
            · exact h4
          · exact h7 u hu
      · rintro ⟨h1, ⟨h2, h3⟩, h4⟩
        have h0 := h1 s (List.mem_cons_self ..)
        exact ⟨h0.1, h0.2.1, h0.2.2, .inr (h4 s (List.mem_cons_self ..)), fun u hu => ⟨h2 u hu, (h1 u (List.mem_cons_of_mem _ hu)).2⟩, h3, fun u hu => h4 u (List.mem_cons_of_mem _ hu)⟩
theorem good_iff (l : List SN) (bl ar : Int) : cGood l bl ar = true ↔ l.length ≤ 8 ∧ (∀ s ∈ l, 0 < s.id ∧ s.id ≤ 1000000 ∧ fitS s bl ar = true) ∧ l.Pairwise (fun s t => s.id < t.id) ∧ (∀ s ∈ l.dropLast, fullS s = true) ∧ (cAts l).Nodup := by
  unfold cGood
  rw [Bool.and_eq_true, Bool.and_eq_true, rise_iff, decide_eq_true_eq, decide_eq_true_eq]
  constructor
  · rintro ⟨h1, ⟨h2, h3, h4⟩, h5⟩; exact ⟨h1, h2, h3, h4, h5⟩
  · rintro ⟨h1, h2, h3, h4, h5⟩; exact ⟨h1, ⟨h2, h3, h4⟩, h5⟩
theorem fit_iff (s : SN) (bl ar : Int) : fitS s bl ar = true ↔ goodB s.ch bl = true ∧ tGood s.tb bl ar = true ∧ ∀ p ∈ s.tb, hasB s.ch p.1 = true := by
  unfold fitS
  rw [Bool.and_eq_true, Bool.and_eq_true, List.all_eq_true]
theorem keep_good {a b : List (Int × Int)} {bl ar : Int} (ha : tGood a bl ar = true) (hb : tGood b bl ar = true) (hx : ∀ p ∈ a, ∀ q ∈ b, p.2 ≠ q.2) :
    tGood (tKeep a a b) bl ar = true ∧ Asc (tKeep a a b) ∧ (∀ q, q ∈ tKeep a a b ↔ q ∈ a ∨ (q ∈ b ∧ tFind a q.1 = none)) ∧ (tKeep a a b).length + (tFree a b).length = a.length + b.length := by
  obtain ⟨a1, a2, a3⟩ := (tGood_iff _ _ _).1 ha
  obtain ⟨b1, b2, b3⟩ := (tGood_iff _ _ _).1 hb
  obtain ⟨k1, k2, k3⟩ := keep_fact a b a a2 b2 fun p hp hn q hq => (isNone_iff a p.1).1 hn q hq
  refine ⟨(tGood_iff _ _ _).2 ⟨fun p hp => ?_, k1, fun p hp q hq e => ?_⟩, k1, k2, k3⟩
  · rcases (k2 p).1 hp with h | ⟨h, -⟩
    · exact a1 p h
    · exact b1 p h
  · rcases (k2 p).1 hp with h | ⟨h, -⟩ <;> rcases (k2 q).1 hq with h' | ⟨h', -⟩
    · exact a3 p h q h' e
    · exact absurd e (hx p h q h')
    · exact absurd e.symm (hx q h' p h)
    · exact b3 p h q h' e
theorem or_has (a b : List Int) (i : Int) : hasB (orB a b) i = (hasB a i || hasB b i) := by
  unfold hasB
  rw [or_bit]
  cases decide (0 ≤ i) <;> simp
theorem or_good {a b : List Int} {n : Int} (ha : goodB a n = true) (hb : goodB b n = true) : goodB (orB a b) n = true := by
  unfold goodB at *
  simp only [Bool.and_eq_true, decide_eq_true_eq, List.all_eq_true] at *
  refine ⟨by rw [or_length, ha.1, hb.1, Nat.max_self], fun i hi => ?_⟩
  have h := mem_all.1 hi
  rw [or_bit, Bool.or_eq_true] at h
  rcases h with h | h
  · exact ha.2 i (mem_all.2 h)
  · exact hb.2 i (mem_all.2 h)
theorem join_fit {s t : SN} {bl ar : Int} (hs : fitS s bl ar = true) (ht : fitS t bl ar = true) (hx : ∀ p ∈ s.tb, ∀ q ∈ t.tb, p.2 ≠ q.2) : fitS (joinS s t) bl ar = true := by
  obtain ⟨s1, s2, s3⟩ := (fit_iff _ _ _).1 hs
  obtain ⟨t1, t2, t3⟩ := (fit_iff _ _ _).1 ht
  obtain ⟨k1, k2, k3, k4⟩ := keep_good s2 t2 hx
  refine (fit_iff _ _ _).2 ⟨or_good s1 t1, k1, fun p hp => ?_⟩
  show hasB (orB s.ch t.ch) p.1 = true
  rw [or_has, Bool.or_eq_true]
  rcases (k3 p).1 hp with h | ⟨h, -⟩
  · exact .inl (s3 p h)
  · exact .inr (t3 p h)
theorem full_of {s : SN} {bl ar : Int} (hs : fitS s bl ar = true) : fullS s = true ↔ ∀ c ∈ allB s.ch, (tFind s.tb (c : Int)).isSome = true := by
  obtain ⟨s1, s2, s3⟩ := (fit_iff _ _ _).1 hs
  rw [full_iff s2 s3]
  unfold rF
  rw [List.all_eq_true]
theorem join_find {s t : SN} {bl ar : Int} (hs : fitS s bl ar = true) (ht : fitS t bl ar = true) (hx : ∀ p ∈ s.tb, ∀ q ∈ t.tb, p.2 ≠ q.2) (b : Int) :
    ((tFind (joinS s t).tb b).isSome = true ↔ (tFind s.tb b).isSome = true ∨ (tFind t.tb b).isSome = true) ∧
    ((tFind s.tb b).isSome = true → tAt (joinS s t).tb b = tAt s.tb b) ∧ (¬ (tFind s.tb b).isSome = true → (tFind t.tb b).isSome = true → tAt (joinS s t).tb b = tAt t.tb b) := by
  obtain ⟨s1, s2, s3⟩ := (fit_iff _ _ _).1 hs
  obtain ⟨t1, t2, t3⟩ := (fit_iff _ _ _).1 ht
  obtain ⟨k1, k2, k3, k4⟩ := keep_good s2 t2 hx
  obtain ⟨-, sa, -⟩ := (tGood_iff _ _ _).1 s2
  obtain ⟨-, ta, -⟩ := (tGood_iff _ _ _).1 t2
  show ((tFind (tKeep s.tb s.tb t.tb) b).isSome = true ↔ _) ∧ (_ → tAt (tKeep s.tb s.tb t.tb) b = _) ∧ (_ → _ → tAt (tKeep s.tb s.tb t.tb) b = _)
  refine ⟨?_, fun h => ?_, fun hn h => ?_⟩
  · rw [isSome_iff, isSome_iff, isSome_iff]
    constructor
    · rintro ⟨p, hp, e⟩
      rcases (k3 p).1 hp with h | ⟨h, -⟩
      · exact .inl ⟨p, h, e⟩
      · exact .inr ⟨p, h, e⟩
    · rintro (⟨p, hp, e⟩ | ⟨p, hp, e⟩)
      · exact ⟨p, (k3 p).2 (.inl hp), e⟩
      · cases hf : tFind s.tb p.1 with
        | none => exact ⟨p, (k3 p).2 (.inr ⟨hp, hf⟩), e⟩
        | some i =>
          obtain ⟨q, hq, e2⟩ := (isSome_iff s.tb p.1).1 (by rw [hf]; rfl)
          exact ⟨q, (k3 q).2 (.inl hq), e2.trans e⟩
  · obtain ⟨p, hp, rfl⟩ := (isSome_iff _ _).1 h
    rw [(k2.at ((k3 p).2 (.inl hp))).2, (sa.at hp).2]
  · obtain ⟨p, hp, rfl⟩ := (isSome_iff _ _).1 h
    have hf : tFind s.tb p.1 = none := by
      cases hf : tFind s.tb p.1 with
      | none => rfl
      | some i => rw [hf] at hn; exact absurd rfl hn
    rw [(k2.at ((k3 p).2 (.inr ⟨hp, hf⟩))).2, (ta.at hp).2]
theorem join_full {s t : SN} {bl ar : Int} (hs : fitS s bl ar = true) (ht : fitS t bl ar = true) (hx : ∀ p ∈ s.tb, ∀ q ∈ t.tb, p.2 ≠ q.2) (fs : fullS s = true) (ft : fullS t = true) : fullS (joinS s t) = true := by
  rw [full_of (join_fit hs ht hx)]
  intro c hc
  have h : bitAt (orB s.ch t.ch) c = true := mem_all.1 hc
  rw [or_bit, Bool.or_eq_true] at h
  rw [(join_find hs ht hx (c : Int)).1]
  rcases h with h | h
  · exact .inl ((full_of hs).1 fs c (mem_all.2 h))
  · exact .inr ((full_of ht).1 ft c (mem_all.2 h))

theorem split_two {l : List SN} {m : Nat} (h : m + 1 < l.length) : ∃ A s t B, l = A ++ s :: t :: B ∧ A.length = m := by
  refine ⟨l.take m, l[m], l[m + 1], l.drop (m + 2), ?_, by rw [List.length_take]; omega⟩
  rw [List.getElem_cons_drop, List.getElem_cons_drop, List.take_append_drop]
theorem drop_two (A B : List SN) (s t : SN) : dropAt (A ++ s :: t :: B) (A.length + 1) = A ++ joinS s t :: B := by
  rw [dropAt_succ]
  simp
theorem drop_len {l : List SN} {i : Nat} (hi : i < l.length) : (dropAt l i).length + 1 = l.length := by
  cases i with
  | zero => rw [dropAt_zero, List.length_drop]; omega
  | succ m =>
    obtain ⟨A, s, t, B, rfl, rfl⟩ := split_two hi
    rw [drop_two]
    simp
    omega
theorem drop_is {l : List SN} {i : Nat} (hi : i < l.length) : cDrop l (i : Int) = dropAt l i := by
  unfold cDrop
  rw [if_pos (by omega), Int.toNat_natCast]
/-- Two that stand in one chain that may be. -/
theorem two_apart {A B : List SN} {s t : SN} (h : (cAts (A ++ s :: t :: B)).Nodup) : ∀ p ∈ s.tb, ∀ q ∈ t.tb, p.2 ≠ q.2 := by
  rw [cAts_append, List.nodup_append] at h
  have h2 := h.2.1
  rw [show cAts (s :: t :: B) = s.tb.map (·.2) ++ (t.tb.map (·.2) ++ cAts B) from rfl, List.nodup_append] at h2
  intro p hp q hq
  exact h2.2.2 p.2 (List.mem_map.2 ⟨p, hp, rfl⟩) q.2 (List.mem_append_left _ (List.mem_map.2 ⟨q, hq, rfl⟩))
theorem join_ats {s t : SN} {bl ar : Int} (hs : fitS s bl ar = true) (ht : fitS t bl ar = true) (hx : ∀ p ∈ s.tb, ∀ q ∈ t.tb, p.2 ≠ q.2) :
    ((joinS s t).tb.map (·.2)).Nodup ∧ (∀ x ∈ (joinS s t).tb.map (·.2), x ∈ s.tb.map (·.2) ++ t.tb.map (·.2)) ∧ (joinS s t).tb.length + (tFree s.tb t.tb).length = s.tb.length + t.tb.length := by
  obtain ⟨s1, s2, s3⟩ := (fit_iff _ _ _).1 hs
  obtain ⟨t1, t2, t3⟩ := (fit_iff _ _ _).1 ht
  obtain ⟨k1, k2, k3, k4⟩ := keep_good s2 t2 hx
  refine ⟨?_, fun x hx2 => ?_, k4⟩
  · unfold tGood at k1
    rw [Bool.and_eq_true, decide_eq_true_eq] at k1
    exact k1.2
  · obtain ⟨p, hp, rfl⟩ := List.mem_map.1 hx2
    rw [List.mem_append]
    rcases (k3 p).1 hp with h | ⟨h, -⟩
    · exact .inl (List.mem_map.2 ⟨p, h, rfl⟩)
    · exact .inr (List.mem_map.2 ⟨p, h, rfl⟩)
theorem drop_good {l : List SN} {bl ar : Int} (h : cGood l bl ar = true) {i : Nat} (hi : i < l.length) : cGood (dropAt l i) bl ar = true := by
  obtain ⟨h1, h2, h3, h4, h5⟩ := (good_iff _ _ _).1 h
  have hl := drop_len hi
  cases i with
  | zero =>
    match l, hi with
    | s :: l, _ =>
      rw [dropAt_zero, List.drop_succ_cons, List.drop_zero]
      refine (good_iff _ _ _).2 ⟨by simp at h1; omega, fun u hu => h2 u (List.mem_cons_of_mem _ hu), (List.pairwise_cons.1 h3).2, fun u hu => ?_, ?_⟩
      · refine h4 u ?_
        cases l with
        | nil => simp at hu
        | cons t l => rw [List.dropLast_cons_of_ne_nil (by simp)]; exact List.mem_cons_of_mem _ hu
      · rw [show cAts (s :: l) = s.tb.map (·.2) ++ cAts l from rfl, List.nodup_append] at h5
        exact h5.2.1
  | succ m =>
    obtain ⟨A, s, t, B, rfl, rfl⟩ := split_two hi
    rw [drop_two] at *
    have hx := two_apart h5
    have ms : s ∈ A ++ s :: t :: B := by simp
    have mt : t ∈ A ++ s :: t :: B := by simp
    obtain ⟨s1, s2, s3⟩ := h2 s ms
    obtain ⟨t1, t2, t3⟩ := h2 t mt
    obtain ⟨j1, j2, j3⟩ := join_ats s3 t3 hx
    rw [List.dropLast_append_of_ne_nil (by simp)] at h4
    refine (good_iff _ _ _).2 ⟨by omega, fun u hu => ?_, ?_, fun u hu => ?_, ?_⟩
    · rw [List.mem_append, List.mem_cons] at hu
      rcases hu with hu | rfl | hu
      · exact h2 u (by simp [hu])
      · exact ⟨s1, s2, join_fit s3 t3 hx⟩
      · exact h2 u (by simp [hu])
    · rw [List.pairwise_append, List.pairwise_cons, List.pairwise_cons] at h3
      obtain ⟨p1, ⟨p2, p3, p4⟩, p5⟩ := h3
      refine List.pairwise_append.2 ⟨p1, List.pairwise_cons.2 ⟨fun u hu => ?_, p4⟩, fun a ha b hb => ?_⟩
      · exact p2 u (List.mem_cons_of_mem _ hu)
      · rcases List.mem_cons.1 hb with rfl | hb
        · exact p5 a ha s (by simp)
        · exact p5 a ha b (by simp [hb])
    · rw [List.dropLast_append_of_ne_nil (by simp), List.mem_append] at hu
      rcases hu with hu | hu
      · exact h4 u (by simp [hu])
      · cases B with
        | nil => simp at hu
        | cons c B =>
          rw [List.dropLast_cons_of_ne_nil (by simp), List.mem_cons] at hu
          rw [List.dropLast_cons_of_ne_nil (by simp), List.dropLast_cons_of_ne_nil (by simp)] at h4
          rcases hu with rfl | hu
          · exact join_full s3 t3 hx (h4 s (by simp)) (h4 t (by simp))
          · exact h4 u (by simp [hu])
    · rw [cAts_append, List.nodup_append] at h5 ⊢
      obtain ⟨q1, q2, q3⟩ := h5
      rw [show cAts (s :: t :: B) = s.tb.map (·.2) ++ (t.tb.map (·.2) ++ cAts B) from rfl] at q2 q3
      rw [← List.append_assoc] at q2 q3
      rw [show cAts (joinS s t :: B) = (joinS s t).tb.map (·.2) ++ cAts B from rfl]
      rw [List.nodup_append] at q2 ⊢
      refine ⟨q1, ⟨j1, q2.2.1, fun a ha b hb => q2.2.2 a (j2 a ha) b hb⟩, fun a ha b hb => ?_⟩
      rcases List.mem_append.1 hb with hb | hb
      · exact q3 a ha b (List.mem_append_left _ (j2 b hb))
      · exact q3 a ha b (List.mem_append_right _ hb)
theorem cut_good {l : List SN} {bl ar : Int} (h : cGood l bl ar = true) {i : Nat} (hi : i < l.length) : cGood (cCut l (i : Int)) bl ar = true ∧ (cCut l (i : Int)).length = i + 1 := by
  obtain ⟨s, hs⟩ : ∃ s, l[i]? = some s := ⟨_, List.getElem?_eq_getElem hi⟩
  rw [cCut_at hs]
  have hsp : l = l.take i ++ s :: l.drop (i + 1) := by rw [← drop_at hs, List.take_append_drop]
  obtain ⟨A, hA⟩ : ∃ A, l.take i = A := ⟨_, rfl⟩
  obtain ⟨B, hB⟩ : ∃ B, l.drop (i + 1) = B := ⟨_, rfl⟩
  rw [hA, hB] at hsp
  have hAl : A.length = i := by rw [← hA, List.length_take]; omega
  rw [hA]
  clear hA hB
  subst hsp
  obtain ⟨h1, h2, h3, h4, h5⟩ := (good_iff _ _ _).1 h
  obtain ⟨s1, s2, s3⟩ := h2 s (by simp)
  rw [List.length_append, List.length_cons] at h1
  rw [List.dropLast_append_of_ne_nil (by simp)] at h4
  refine ⟨(good_iff _ _ _).2 ⟨by rw [List.length_append, List.length_singleton]; omega, fun u hu => ?_, ?_, fun u hu => ?_, ?_⟩, by rw [List.length_append, List.length_singleton]; omega⟩
  · rw [List.mem_append, List.mem_singleton] at hu
    rcases hu with hu | rfl
    · exact h2 u (by simp [hu])
    · refine ⟨s1, s2, (fit_iff _ _ _).2 ⟨?_, ?_, fun p hp => by cases hp⟩⟩
      · obtain ⟨g1, -, -⟩ := (fit_iff _ _ _).1 s3
        unfold goodB at g1 ⊢
        simp only [Bool.and_eq_true, decide_eq_true_eq, List.all_eq_true] at g1 ⊢
        refine ⟨by show (List.replicate _ _).length = _; rw [List.length_replicate]; exact g1.1, fun c hc => ?_⟩
        have : bitAt (List.replicate s.ch.length 0) c = true := mem_all.1 hc
        unfold bitAt at this
        by_cases hk : c / 8 < s.ch.length
        · simp [hk] at this
        · simp [hk] at this
      · show tGood [] bl ar = true
        rfl
  · rw [List.pairwise_append] at h3 ⊢
    exact ⟨h3.1, List.pairwise_singleton _ _, fun a ha b hb => by rw [List.mem_singleton.1 hb]; exact h3.2.2 a ha s (by simp)⟩
  · rw [List.dropLast_concat] at hu
    exact h4 u (by simp [hu])
  · rw [cAts_append, List.nodup_append] at h5
    rw [cAts_append, show cAts [emptyS s] = [] from rfl, List.append_nil]
    exact h5.1

theorem firstT_append (A L : List SN) (b : Int) : firstT (A ++ L) b = match firstT A b with | some x => some x | none => firstT L b := by
  induction A with
  | nil => rfl
  | cons s A ih =>
    show (if _ then _ else firstT (A ++ L) b) = match (if _ then _ else firstT A b) with | some x => some x | none => _
    by_cases h : (tFind s.tb b).isSome = true
    · rw [if_pos h, if_pos h]
    · rw [if_neg h, if_neg h, ih]
theorem firstT_cons (s : SN) (l : List SN) (b : Int) : firstT (s :: l) b = if (tFind s.tb b).isSome then some (tAt s.tb b) else firstT l b := rfl
theorem hold_nat (l : List SN) (k : Nat) (b : Int) : cHold l (k : Int) b = firstT (l.drop k) b := by
  unfold cHold
  rw [if_neg (by omega), Int.toNat_natCast]
theorem hold_after {l : List SN} {i k : Nat} (hk : k < l.length) (hik : i < k) (b : Int) : cHold (dropAt l i) ((k - 1 : Nat) : Int) b = cHold l (k : Int) b := by
  rw [hold_nat, hold_nat]
  congr 1
  cases i with
  | zero => rw [dropAt_zero, List.drop_drop]; congr 1; omega
  | succ m =>
    obtain ⟨A, s, t, B, rfl, rfl⟩ := split_two (l := l) (m := m) (by omega)
    rw [drop_two, List.drop_append, List.drop_append, List.drop_of_length_le (show A.length ≤ k - 1 by omega), List.drop_of_length_le (show A.length ≤ k by omega), List.nil_append, List.nil_append]
    obtain ⟨c, hc⟩ : ∃ c, k = A.length + 2 + c := ⟨k - (A.length + 2), by omega⟩
    subst hc
    rw [show A.length + 2 + c - 1 - A.length = c + 1 by omega, show A.length + 2 + c - A.length = c + 1 + 1 by omega]
    simp only [List.drop_succ_cons]
theorem hold_before {l : List SN} {bl ar : Int} (h : cGood l bl ar = true) {i k : Nat} (hi : i < l.length) (hki : k < i) (b : Int) : cHold (dropAt l i) (k : Int) b = cHold l (k : Int) b := by
  rw [hold_nat, hold_nat]
  obtain ⟨h1, h2, h3, h4, h5⟩ := (good_iff _ _ _).1 h
  cases i with
  | zero => omega
  | succ m =>
    obtain ⟨A, s, t, B, rfl, rfl⟩ := split_two hi
    have hx := two_apart h5
    obtain ⟨-, -, s3⟩ := h2 s (by simp)
    obtain ⟨-, -, t3⟩ := h2 t (by simp)
    rw [drop_two, List.drop_append_of_le_length (by omega), List.drop_append_of_le_length (by omega), firstT_append, firstT_append]
    have key : firstT (joinS s t :: B) b = firstT (s :: t :: B) b := by
      obtain ⟨f1, f2, f3⟩ := join_find s3 t3 hx b
      rw [firstT_cons, firstT_cons, firstT_cons]
      by_cases hs : (tFind s.tb b).isSome = true
      · rw [if_pos (f1.2 (.inl hs)), if_pos hs, f2 hs]
      · by_cases ht : (tFind t.tb b).isSome = true
        · rw [if_pos (f1.2 (.inr ht)), if_neg hs, if_pos ht, f3 hs ht]
        · rw [if_neg (fun h => by rcases f1.1 h with h | h; exact hs h; exact ht h), if_neg hs, if_neg ht]
    rw [key]
/-- What is held behind a drop was held. -/
theorem drop_held {l : List SN} {bl ar : Int} (h : cGood l bl ar = true) {i : Nat} (hi : i < l.length) {u : SN} (hu : u ∈ dropAt l i) {p : Int × Int} (hp : p ∈ u.tb) : ∃ (c : Nat) (s : SN), l[c]? = some s ∧ (tFind s.tb p.1).isSome = true ∧ tAt s.tb p.1 = p.2 := by
  have key : ∃ s ∈ l, p ∈ s.tb := by
    cases i with
    | zero => rw [dropAt_zero] at hu; exact ⟨u, List.mem_of_mem_drop hu, hp⟩
    | succ m =>
      obtain ⟨h1, h2, h3, h4, h5⟩ := (good_iff _ _ _).1 h
      obtain ⟨A, s, t, B, rfl, rfl⟩ := split_two hi
      have hx := two_apart h5
      obtain ⟨-, -, s3⟩ := h2 s (by simp)
      obtain ⟨-, -, t3⟩ := h2 t (by simp)
      rw [drop_two, List.mem_append, List.mem_cons] at hu
      rcases hu with hu | rfl | hu
      · exact ⟨u, by simp [hu], hp⟩
      · obtain ⟨k1, k2, k3, k4⟩ := keep_good ((fit_iff _ _ _).1 s3).2.1 ((fit_iff _ _ _).1 t3).2.1 hx
        rcases (k3 p).1 hp with hp | ⟨hp, -⟩
        · exact ⟨s, by simp, hp⟩
        · exact ⟨t, by simp, hp⟩
      · exact ⟨u, by simp [hu], hp⟩
  obtain ⟨s, hs, hp⟩ := key
  obtain ⟨c, hc⟩ := List.getElem?_of_mem hs
  exact ⟨c, s, hc, good_table h hc hp⟩
theorem cAts_two (A B : List SN) (s t : SN) : (cAts (A ++ s :: t :: B)).length = (cAts A).length + (s.tb.length + (t.tb.length + (cAts B).length)) := by
  rw [cAts_append, show cAts (s :: t :: B) = s.tb.map (·.2) ++ (t.tb.map (·.2) ++ cAts B) from rfl]
  simp
/-- How many places a drop makes free, and that none comes. -/
theorem drop_ats_zero {l : List SN} (hl : 0 < l.length) {s : SN} (hs : l[0]? = some s) : (cAts (dropAt l 0)).length + s.tb.length = (cAts l).length ∧ ∀ x ∈ cAts (dropAt l 0), x ∈ cAts l := by
  match l, hl with
  | u :: l, _ =>
    simp at hs
    subst hs
    rw [dropAt_zero, List.drop_succ_cons, List.drop_zero, show cAts (u :: l) = u.tb.map (·.2) ++ cAts l from rfl]
    exact ⟨by simp; omega, fun x hx => List.mem_append_right _ hx⟩
theorem drop_ats_succ {l : List SN} {bl ar : Int} (h : cGood l bl ar = true) {m : Nat} (hi : m + 1 < l.length) {s t : SN} (hs : l[m]? = some s) (ht : l[m + 1]? = some t) :
    (cAts (dropAt l (m + 1))).length + (tFree s.tb t.tb).length = (cAts l).length ∧ ∀ x ∈ cAts (dropAt l (m + 1)), x ∈ cAts l := by
  obtain ⟨h1, h2, h3, h4, h5⟩ := (good_iff _ _ _).1 h
  obtain ⟨A, s', t', B, rfl, rfl⟩ := split_two hi
  rw [List.getElem?_append_right (Nat.le_refl _), Nat.sub_self] at hs
  rw [List.getElem?_append_right (by omega), show A.length + 1 - A.length = 1 by omega] at ht
  simp at hs ht
  subst hs ht
  have hx := two_apart h5
  obtain ⟨-, -, s3⟩ := h2 s' (by simp)
  obtain ⟨-, -, t3⟩ := h2 t' (by simp)
  obtain ⟨j1, j2, j3⟩ := join_ats s3 t3 hx
  rw [drop_two]
  refine ⟨?_, fun x hx2 => ?_⟩
  · rw [cAts_two, cAts_append, show cAts (joinS s' t' :: B) = (joinS s' t').tb.map (·.2) ++ cAts B from rfl, List.length_append, List.length_append, List.length_map]
    omega
  · rw [cAts_append, show cAts (joinS s' t' :: B) = (joinS s' t').tb.map (·.2) ++ cAts B from rfl, List.mem_append, List.mem_append] at hx2
    rw [cAts_append, show cAts (s' :: t' :: B) = s'.tb.map (·.2) ++ (t'.tb.map (·.2) ++ cAts B) from rfl, List.mem_append, List.mem_append, List.mem_append]
    rcases hx2 with hx2 | hx2 | hx2
    · exact .inl hx2
    · rcases List.mem_append.1 (j2 x hx2) with h | h
      · exact .inr (.inl h)
      · exact .inr (.inr (.inl h))
    · exact .inr (.inr (.inr hx2))
theorem good_nodup {l : List SN} {bl ar : Int} (h : cGood l bl ar = true) : (cAts l).Nodup := ((good_iff _ _ _).1 h).2.2.2.2
theorem idx_ten {n : Int} (h0 : 0 ≤ n) : ∃ b : Nat, n % 10 = (b : Int) ∧ n.tmod 10 = (b : Int) ∧ b < 10 := by
  obtain ⟨b, hb⟩ : ∃ b : Nat, n % 10 = (b : Int) := ⟨(n % 10).toNat, by omega⟩
  exact ⟨b, hb, by rw [Int.tmod_eq_emod_of_nonneg h0]; exact hb, by omega⟩
theorem fair_get {l : List SN} (hl : ∀ s ∈ l, s.ch.length ≤ 40 ∧ s.tb.length ≤ 80) (m : Nat) : (l[m]?.getD zeroS).ch.length ≤ 40 ∧ (l[m]?.getD zeroS).tb.length ≤ 80 := by
  cases h : l[m]? with
  | none => exact ⟨Nat.zero_le _, Nat.zero_le _⟩
  | some s => exact hl s (List.mem_of_getElem? h)
theorem drop_lens {l : List SN} (hl : l.length ≤ 12) (hs : ∀ s ∈ l, s.ch.length ≤ 40 ∧ s.tb.length ≤ 80) (i : Int) : Lens 1000 (cDrop l i) := by
  unfold cDrop
  split
  · cases i.toNat with
    | zero =>
      rw [dropAt_zero]
      exact ⟨by rw [List.length_drop]; omega, fun s h => by have := hs s (List.mem_of_mem_drop h); omega⟩
    | succ m =>
      rw [dropAt_succ]
      refine ⟨by simp only [List.length_append, List.length_take, List.length_cons, List.length_drop]; omega, fun s h => ?_⟩
      rcases List.mem_append.1 h with h | h
      · have := hs s (List.mem_of_mem_take h); omega
      · rcases List.mem_cons.1 h with rfl | h
        · have h1 := fair_get hs m
          have h2 := fair_get hs (m + 1)
          have h3 := tKeep_len (l[m]?.getD zeroS).tb (l[m + 1]?.getD zeroS).tb (l[m]?.getD zeroS).tb
          refine ⟨?_, ?_⟩
          · show (orB _ _).length ≤ _
            rw [or_length]; omega
          · show (tKeep _ _ _).length ≤ _
            omega
        · have := hs s (List.mem_of_mem_drop h); omega
  · exact ⟨by omega, fun s h => by have := hs s h; omega⟩
theorem cut_lens {l : List SN} (hl : l.length ≤ 12) (hs : ∀ s ∈ l, s.ch.length ≤ 40 ∧ s.tb.length ≤ 80) (i : Int) : Lens 1000 (cCut l i) := by
  unfold cCut
  split
  · refine ⟨by simp only [List.length_append, List.length_take, List.length_cons, List.length_nil]; omega, fun s h => ?_⟩
    rcases List.mem_append.1 h with h | h
    · have := hs s (List.mem_of_mem_take h); omega
    · obtain rfl := List.mem_singleton.1 h
      have h1 := fair_get hs i.toNat
      exact ⟨by show (List.replicate _ _).length ≤ _; rw [List.length_replicate]; omega, Nat.zero_le _⟩
  · exact ⟨by omega, fun s h => by have := hs s h; omega⟩
theorem table_len {l : List (Int × Int)} {bl : Nat} {ar : Int} (h : tGood l (bl : Int) ar = true) : l.length ≤ bl := by
  obtain ⟨h1, h2, -⟩ := (tGood_iff _ _ _).1 h
  have hn : (l.map fun p => p.1.toNat).Nodup := by
    refine List.pairwise_map.2 (h2.imp_of_mem fun {a b} ha hb hab e => ?_)
    have := h1 a ha
    have := h1 b hb
    omega
  have := nodup_sub _ (List.range bl) hn fun x hx => by
    obtain ⟨p, hp, rfl⟩ := List.mem_map.1 hx
    have := h1 p hp
    exact List.mem_range.2 (by omega)
  simpa using this
theorem good_lens {l : List SN} (h : cGood l 10 200 = true) : l.length ≤ 8 ∧ ∀ s ∈ l, s.ch.length ≤ 40 ∧ s.tb.length ≤ 10 := by
  obtain ⟨h1, h2, -⟩ := (good_iff _ _ _).1 h
  refine ⟨h1, fun s hs => ?_⟩
  obtain ⟨-, -, hf⟩ := h2 s hs
  obtain ⟨f1, f2, -⟩ := (fit_iff _ _ _).1 hf
  unfold goodB at f1
  rw [Bool.and_eq_true, decide_eq_true_eq] at f1
  refine ⟨by rw [f1.1]; decide, table_len (bl := 10) f2⟩
theorem good_lens1 {l : List SN} (h : cGood l 10 200 = true) : Lens 1000 l := by
  obtain ⟨h1, h2⟩ := good_lens h
  exact ⟨by omega, fun s hs => by have := h2 s hs; omega⟩
/-- Does one of them hold this? -/
def dHas (l : List SN) (p : Int × Int) : Bool := l.any fun s => (tFind s.tb p.1).isSome && (tAt s.tb p.1 == p.2)
theorem dHas_snoc (l : List SN) (s : SN) (p : Int × Int) : dHas (l ++ [s]) p = (dHas l p || ((tFind s.tb p.1).isSome && (tAt s.tb p.1 == p.2))) := by
  unfold dHas
  rw [List.any_append, List.any_cons, List.any_nil, Bool.or_false]
theorem dHas_drop {l : List SN} (h : cGood l 10 200 = true) {i : Nat} (hi : i < l.length) {a b : Nat} {u : SN} (hu : (dropAt l i)[a]? = some u) {p : Int × Int} (hp : u.tb[b]? = some p) : dHas l p = true := by
  obtain ⟨c, s, hs, h1, h2⟩ := drop_held h hi (List.mem_of_getElem? hu) (List.mem_of_getElem? hp)
  unfold dHas
  rw [List.any_eq_true]
  exact ⟨s, List.mem_of_getElem? hs, by rw [h1, h2]; simp⟩
end Go.Proofs.Ytiidfffedoekiaa
