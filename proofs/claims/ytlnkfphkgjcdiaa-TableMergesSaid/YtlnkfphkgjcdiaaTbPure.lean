/- What good tables are worth: plain facts. -/
import Derived.Test.YtlnkfphkgjcdiaaTbMath
namespace Go.Proofs.Ytlnkfphkgjcdiaa
set_option linter.unusedVariables false

/-- The blocks rise. -/
def Asc (l : List (Int × Int)) : Prop := l.Pairwise fun p q => p.1 < q.1
/-- No At twice. -/
def AtOne (l : List (Int × Int)) : Prop := ∀ p ∈ l, ∀ q ∈ l, p.2 = q.2 → p = q
def InAll (l : List (Int × Int)) (blocks area : Int) : Prop := ∀ p ∈ l, 0 ≤ p.1 ∧ p.1 < blocks ∧ 0 ≤ p.2 ∧ p.2 < area

theorem tRise_iff (bl ar : Int) : ∀ (l : List (Int × Int)) (last : Int), tRise bl ar last l = true ↔ (∀ p ∈ l, last < p.1 ∧ p.1 < bl ∧ 0 ≤ p.2 ∧ p.2 < ar) ∧ Asc l
  | [], last => by simp [tRise, Asc]
  | p :: l, last => by
    unfold tRise
    rw [Bool.and_eq_true, tRise_iff bl ar l p.1]
    simp only [Bool.and_eq_true, decide_eq_true_eq, Asc, List.pairwise_cons, List.mem_cons, forall_eq_or_imp]
    constructor
    · rintro ⟨⟨⟨⟨h1, h2⟩, h3⟩, h4⟩, h5, h6⟩
      exact ⟨⟨⟨h1, h2, h3, h4⟩, fun q hq => ⟨by have := (h5 q hq).1; omega, (h5 q hq).2⟩⟩, fun q hq => (h5 q hq).1, h6⟩
    · rintro ⟨⟨⟨h1, h2, h3, h4⟩, h5⟩, h6, h7⟩
      exact ⟨⟨⟨⟨h1, h2⟩, h3⟩, h4⟩, fun q hq => ⟨h6 q hq, (h5 q hq).2⟩, h7⟩
theorem Asc.nodup {l : List (Int × Int)} (h : Asc l) : l.Nodup := h.imp fun h e => by subst e; omega
theorem nodup_at {l : List (Int × Int)} (hn : l.Nodup) : (l.map (·.2)).Nodup ↔ AtOne l := by
  constructor
  · intro h p hp q hq e
    obtain ⟨i, hi⟩ := List.getElem?_of_mem hp
    obtain ⟨j, hj⟩ := List.getElem?_of_mem hq
    obtain ⟨hil, hie⟩ := List.getElem?_eq_some_iff.1 hi
    obtain ⟨hjl, hje⟩ := List.getElem?_eq_some_iff.1 hj
    have hw := List.pairwise_iff_getElem.1 h
    rcases Nat.lt_trichotomy i j with hij | hij | hij
    · exact absurd (by rw [List.getElem_map, List.getElem_map, hie, hje]; exact e) (hw i j (by simpa using hil) (by simpa using hjl) hij)
    · subst hij; rw [hi] at hj; cases hj; rfl
    · exact absurd (by rw [List.getElem_map, List.getElem_map, hie, hje]; exact e.symm) (hw j i (by simpa using hjl) (by simpa using hil) hij)
  · intro h
    refine List.pairwise_map.2 (hn.imp_of_mem fun ha hb hne e => hne (h _ ha _ hb e))
theorem tGood_iff (l : List (Int × Int)) (bl ar : Int) : tGood l bl ar = true ↔ InAll l bl ar ∧ Asc l ∧ AtOne l := by
  unfold tGood
  rw [Bool.and_eq_true, decide_eq_true_eq, tRise_iff]
  constructor
  · rintro ⟨⟨h1, h2⟩, h3⟩
    exact ⟨fun p hp => by have := h1 p hp; omega, h2, (nodup_at h2.nodup).1 h3⟩
  · rintro ⟨h1, h2, h3⟩
    exact ⟨⟨fun p hp => by have := h1 p hp; omega, h2⟩, (nodup_at h2.nodup).2 h3⟩
theorem isSome_iff (l : List (Int × Int)) (b : Int) : (tFind l b).isSome = true ↔ ∃ p ∈ l, p.1 = b := by
  cases h : tFind l b with
  | none =>
    simp only [Option.isSome_none, Bool.false_eq_true, false_iff]
    rintro ⟨p, hp, e⟩
    obtain ⟨j, hj⟩ := List.getElem?_of_mem hp
    exact tFind_none.1 h j p hj e
  | some i =>
    simp only [Option.isSome_some, true_iff]
    obtain ⟨⟨p, hp, e⟩, -⟩ := tFind_some.1 h
    exact ⟨p, List.mem_of_getElem? hp, e⟩
theorem isNone_iff (l : List (Int × Int)) (b : Int) : tFind l b = none ↔ ∀ p ∈ l, p.1 ≠ b := by
  rw [← Option.not_isSome_iff_eq_none, isSome_iff]
  exact ⟨fun h p hp e => h ⟨p, hp, e⟩, fun h ⟨p, hp, e⟩ => h p hp e⟩
theorem Asc.one {l : List (Int × Int)} (h : Asc l) {p q : Int × Int} (hp : p ∈ l) (hq : q ∈ l) (e : p.1 = q.1) : p = q := by
  obtain ⟨i, hi⟩ := List.getElem?_of_mem hp
  obtain ⟨j, hj⟩ := List.getElem?_of_mem hq
  obtain ⟨hil, hie⟩ := List.getElem?_eq_some_iff.1 hi
  obtain ⟨hjl, hje⟩ := List.getElem?_eq_some_iff.1 hj
  have hw := List.pairwise_iff_getElem.1 h
  rcases Nat.lt_trichotomy i j with hij | hij | hij
  · have := hw i j hil hjl hij; rw [hie, hje] at this; omega
  · subst hij; rw [hi] at hj; cases hj; rfl
  · have := hw j i hjl hil hij; rw [hie, hje] at this; omega
theorem Asc.at {l : List (Int × Int)} (h : Asc l) {p : Int × Int} (hp : p ∈ l) : (tFind l p.1).isSome = true ∧ tAt l p.1 = p.2 := by
  have h1 : (tFind l p.1).isSome = true := (isSome_iff _ _).2 ⟨p, hp, rfl⟩
  refine ⟨h1, ?_⟩
  obtain ⟨i, hi⟩ := Option.isSome_iff_exists.1 h1
  obtain ⟨⟨q, hq, e⟩, -⟩ := tFind_some.1 hi
  unfold tAt
  rw [hi]
  simp only [hq, Option.getD_some]
  rw [h.one (List.mem_of_getElem? hq) hp e]
theorem take_lt {l : List (Int × Int)} {b : Int} (hn : ∀ p ∈ l, p.1 ≠ b) {p : Int × Int} (hp : p ∈ l.take (tGt l b)) : p.1 < b := by
  obtain ⟨j, hj⟩ := List.getElem?_of_mem hp
  rw [List.getElem?_take] at hj
  split at hj
  · rename_i h
    have := tGt_lt hj h
    have := hn p (List.mem_of_getElem? hj)
    omega
  · cases hj
theorem drop_gt {l : List (Int × Int)} (h : Asc l) {b : Int} {p : Int × Int} (hp : p ∈ l.drop (tGt l b)) : b < p.1 := by
  obtain ⟨j, hj⟩ := List.getElem?_of_mem hp
  rw [List.getElem?_drop] at hj
  obtain ⟨hl, he⟩ := List.getElem?_eq_some_iff.1 hj
  have h0 : l[tGt l b]? = some l[tGt l b] := List.getElem?_eq_getElem (by omega)
  have h1 := tGt_at h0
  by_cases e : j = 0
  · subst e
    rw [Nat.add_zero] at hj
    rw [h0] at hj; cases hj
    exact h1
  · have := List.pairwise_iff_getElem.1 h (tGt l b) (tGt l b + j) (by omega) hl (by omega)
    rw [he] at this
    omega
theorem tPut_mem {l : List (Int × Int)} (h : Asc l) (b a : Int) (q : Int × Int) : q ∈ tPut l b a ↔ q = (b, a) ∨ (q ∈ l ∧ q.1 ≠ b) := by
  unfold tPut
  cases hf : tFind l b with
  | none =>
    have hn := (isNone_iff l b).1 hf
    simp only [tIns, List.mem_append, List.mem_cons]
    constructor
    · rintro (h1 | h1 | h1)
      · exact .inr ⟨List.mem_of_mem_take h1, hn q (List.mem_of_mem_take h1)⟩
      · exact .inl h1
      · exact .inr ⟨List.mem_of_mem_drop h1, hn q (List.mem_of_mem_drop h1)⟩
    · rintro (h1 | ⟨h1, h2⟩)
      · exact .inr (.inl h1)
      · rw [← List.take_append_drop (tGt l b) l, List.mem_append] at h1
        rcases h1 with h1 | h1
        · exact .inl h1
        · exact .inr (.inr h1)
  | some i =>
    obtain ⟨⟨p, hp, e⟩, -⟩ := tFind_some.1 hf
    have hil := (List.getElem?_eq_some_iff.1 hp).1
    simp only
    constructor
    · intro hq
      obtain ⟨j, hj⟩ := List.getElem?_of_mem hq
      by_cases hij : i = j
      · subst hij
        rw [List.getElem?_set_self hil] at hj
        cases hj
        exact .inl rfl
      · rw [List.getElem?_set_ne hij] at hj
        refine .inr ⟨List.mem_of_getElem? hj, fun e2 => ?_⟩
        obtain ⟨hjl, hje⟩ := List.getElem?_eq_some_iff.1 hj
        obtain ⟨_, hie⟩ := List.getElem?_eq_some_iff.1 hp
        have hw := List.pairwise_iff_getElem.1 h
        rcases Nat.lt_or_gt_of_ne hij with hlt | hlt
        · have := hw i j hil hjl hlt; rw [hie, hje] at this; omega
        · have := hw j i hjl hil hlt; rw [hie, hje] at this; omega
    · rintro (rfl | ⟨hq, hne⟩)
      · exact List.mem_iff_getElem?.2 ⟨i, List.getElem?_set_self hil⟩
      · obtain ⟨j, hj⟩ := List.getElem?_of_mem hq
        refine List.mem_iff_getElem?.2 ⟨j, ?_⟩
        rw [List.getElem?_set_ne (fun e2 => ?_)]
        · exact hj
        · subst e2; rw [hp] at hj; cases hj; exact hne e
theorem tPut_asc {l : List (Int × Int)} (h : Asc l) (b a : Int) : Asc (tPut l b a) := by
  unfold tPut
  cases hf : tFind l b with
  | none =>
    have hn := (isNone_iff l b).1 hf
    simp only [tIns, Asc]
    refine List.pairwise_append.2 ⟨List.Pairwise.sublist (List.take_sublist _ _) h, List.pairwise_cons.2 ⟨fun q hq => drop_gt h hq, List.Pairwise.sublist (List.drop_sublist _ _) h⟩, fun p hp q hq => ?_⟩
    rcases List.mem_cons.1 hq with rfl | hq
    · exact take_lt hn hp
    · have h1 := take_lt hn hp
      have h2 := drop_gt h hq
      omega
  | some i =>
    obtain ⟨⟨p, hp, e⟩, -⟩ := tFind_some.1 hf
    obtain ⟨hil, hie⟩ := List.getElem?_eq_some_iff.1 hp
    simp only [Asc]
    refine List.pairwise_iff_getElem.2 fun j k hj hk hjk => ?_
    have hw := List.pairwise_iff_getElem.1 h
    rw [List.length_set] at hj hk
    rw [List.getElem_set, List.getElem_set]
    split
    · split
      · omega
      · rename_i h1 h2
        subst h1
        have := hw i k hj hk hjk
        rw [hie] at this
        simpa [e] using this
    · split
      · rename_i h1 h2
        subst h2
        have := hw j i hj hk hjk
        rw [hie] at this
        simpa [e] using this
      · exact hw j k hj hk hjk
theorem tPut_len (l : List (Int × Int)) (b a : Int) : (tPut l b a).length = if (tFind l b).isSome then l.length else l.length + 1 := by
  unfold tPut
  cases hf : tFind l b with
  | none => simp [tIns_length _ (tGt_le l b)]
  | some i => simp
theorem tPut_perm {l : List (Int × Int)} {b : Int} (a : Int) (hn : ∀ p ∈ l, p.1 ≠ b) : (tPut l b a).Perm ((b, a) :: l) := by
  unfold tPut
  rw [(isNone_iff l b).2 hn]
  simp only [tIns]
  refine List.perm_middle.trans ?_
  rw [List.take_append_drop]

/-- TablePuts, as a plain fact. -/
theorem puts_fact {l : List (Int × Int)} (h : tGood l 64 200 = true) {b a : Int} (hb0 : 0 ≤ b) (hb1 : b < 64) (ha0 : 200 ≤ a) (ha1 : a < 500) :
    (tFind (tPut l b a) b).isSome = true ∧ tAt (tPut l b a) b = a ∧ tGood (tPut l b a) 64 500 = true ∧
    (∀ p ∈ l, (tFind (tPut l b a) p.1).isSome = true ∧ (p.1 ≠ b → tAt (tPut l b a) p.1 = p.2)) := by
  obtain ⟨h1, h2, h3⟩ := (tGood_iff _ _ _).1 h
  have hasc := tPut_asc h2 b a
  have hm := tPut_mem h2 b a
  have h0 := hasc.at ((hm (b, a)).2 (.inl rfl))
  refine ⟨h0.1, h0.2, (tGood_iff _ _ _).2 ⟨fun p hp => ?_, hasc, fun p hp q hq e => ?_⟩, fun p hp => ⟨?_, fun hne => ?_⟩⟩
  · rcases (hm p).1 hp with rfl | ⟨hp, -⟩
    · exact ⟨hb0, hb1, by simp only; omega, by simp only; omega⟩
    · have := h1 p hp; omega
  · rcases (hm p).1 hp with rfl | ⟨hp, -⟩
    · rcases (hm q).1 hq with rfl | ⟨hq, -⟩
      · rfl
      · have := h1 q hq; simp only at e; omega
    · rcases (hm q).1 hq with rfl | ⟨hq, -⟩
      · have := h1 p hp; simp only at e; omega
      · exact h3 p hp q hq e
  · refine (isSome_iff _ _).2 ?_
    by_cases e : p.1 = b
    · exact ⟨(b, a), (hm _).2 (.inl rfl), e.symm⟩
    · exact ⟨p, (hm p).2 (.inr ⟨hp, e⟩), rfl⟩
  · exact (hasc.at ((hm p).2 (.inr ⟨hp, hne⟩))).2

/-- What is kept of both. -/
theorem keep_fact (a : List (Int × Int)) : ∀ (b m : List (Int × Int)), Asc m → Asc b → (∀ p ∈ b, tFind a p.1 = none → ∀ q ∈ m, q.1 ≠ p.1) →
    Asc (tKeep a m b) ∧ (∀ q, q ∈ tKeep a m b ↔ q ∈ m ∨ (q ∈ b ∧ tFind a q.1 = none)) ∧ (tKeep a m b).length + (tFree a b).length = m.length + b.length
  | [], m, hm, _, _ => by simp [tKeep, tFree, hm]
  | p :: b, m, hm, hb, hx => by
    obtain ⟨hpb, hb'⟩ := List.pairwise_cons.1 hb
    unfold tKeep
    cases hf : tFind a p.1 with
    | some i =>
      simp only [Option.isSome_some, if_true]
      obtain ⟨i1, i2, i3⟩ := keep_fact a b m hm hb' fun q hq => hx q (List.mem_cons_of_mem _ hq)
      refine ⟨i1, fun q => ?_, ?_⟩
      · rw [i2 q]
        constructor
        · rintro (h | ⟨h, h'⟩)
          · exact .inl h
          · exact .inr ⟨List.mem_cons_of_mem _ h, h'⟩
        · rintro (h | ⟨h, h'⟩)
          · exact .inl h
          · rcases List.mem_cons.1 h with rfl | h
            · rw [hf] at h'; cases h'
            · exact .inr ⟨h, h'⟩
      · have e : tFree a (p :: b) = p.2 :: tFree a b := by
          unfold tFree
          rw [List.filter_cons_of_pos (by rw [hf]; rfl)]
          rfl
        rw [e]
        simp only [List.length_cons]
        omega
    | none =>
      simp only [Option.isSome_none, Bool.false_eq_true, if_false]
      have hnm : ∀ q ∈ m, q.1 ≠ p.1 := hx p (List.mem_cons_self ..) hf
      have hpm := tPut_mem hm p.1 p.2
      obtain ⟨i1, i2, i3⟩ := keep_fact a b (tPut m p.1 p.2) (tPut_asc hm _ _) hb' fun q hq hq' r hr => by
        rcases (hpm r).1 hr with rfl | ⟨hr, -⟩
        · have := hpb q hq; simp only; omega
        · exact hx q (List.mem_cons_of_mem _ hq) hq' r hr
      refine ⟨i1, fun q => ?_, ?_⟩
      · rw [i2 q, hpm q]
        constructor
        · rintro ((rfl | ⟨h, -⟩) | ⟨h, h'⟩)
          · exact .inr ⟨List.mem_cons_self .., hf⟩
          · exact .inl h
          · exact .inr ⟨List.mem_cons_of_mem _ h, h'⟩
        · rintro (h | ⟨h, h'⟩)
          · exact .inl (.inr ⟨h, hnm q h⟩)
          · rcases List.mem_cons.1 h with rfl | h
            · exact .inl (.inl rfl)
            · exact .inr ⟨h, h'⟩
      · have e : tFree a (p :: b) = tFree a b := by
          unfold tFree
          rw [List.filter_cons_of_neg (by rw [hf]; simp)]
        rw [e]
        rw [tPut_len, (isNone_iff m p.1).2 hnm] at i3
        simp only [Option.isSome_none, Bool.false_eq_true, if_false] at i3
        simp only [List.length_cons]
        omega
theorem free_mem (a b : List (Int × Int)) (n : Int) : n ∈ tFree a b ↔ ∃ p ∈ b, (tFind a p.1).isSome = true ∧ p.2 = n := by
  unfold tFree
  rw [List.mem_map]
  constructor
  · rintro ⟨p, hp, rfl⟩
    obtain ⟨h1, h2⟩ := List.mem_filter.1 hp
    exact ⟨p, h1, h2, rfl⟩
  · rintro ⟨p, h1, h2, rfl⟩
    exact ⟨p, List.mem_filter.2 ⟨h1, h2⟩, rfl⟩
/-- TableMerges, as a plain fact. -/
theorem merges_fact {a b : List (Int × Int)} (ha : tGood a 64 200 = true) (hb : tGood b 64 200 = true) (hx : ∀ p ∈ a, ∀ q ∈ b, p.2 ≠ q.2) :
    tGood (tKeep a a b) 64 200 = true ∧ (tKeep a a b).length + (tFree a b).length = a.length + b.length ∧
    (∀ p ∈ a, (tFind (tKeep a a b) p.1).isSome = true ∧ tAt (tKeep a a b) p.1 = p.2) ∧
    (∀ q ∈ b, (tFind (tKeep a a b) q.1).isSome = true ∧ (tAt (tKeep a a b) q.1 = q.2 ↔ q.2 ∉ tFree a b)) := by
  obtain ⟨a1, a2, a3⟩ := (tGood_iff _ _ _).1 ha
  obtain ⟨b1, b2, b3⟩ := (tGood_iff _ _ _).1 hb
  obtain ⟨k1, k2, k3⟩ := keep_fact a b a a2 b2 fun p hp hn q hq => (isNone_iff a p.1).1 hn q hq
  refine ⟨(tGood_iff _ _ _).2 ⟨fun p hp => ?_, k1, fun p hp q hq e => ?_⟩, k3, fun p hp => k1.at ((k2 p).2 (.inl hp)), fun q hq => ?_⟩
  · rcases (k2 p).1 hp with h | ⟨h, -⟩
    · exact a1 p h
    · exact b1 p h
  · rcases (k2 p).1 hp with h | ⟨h, -⟩ <;> rcases (k2 q).1 hq with h' | ⟨h', -⟩
    · exact a3 p h q h' e
    · exact absurd e (hx p h q h')
    · exact absurd e.symm (hx q h' p h)
    · exact b3 p h q h' e
  · cases hf : tFind a q.1 with
    | none =>
      obtain ⟨c1, c2⟩ := k1.at ((k2 q).2 (.inr ⟨hq, hf⟩))
      refine ⟨c1, ⟨fun _ hm => ?_, fun _ => c2⟩⟩
      obtain ⟨p, hp, hps, e⟩ := (free_mem a b q.2).1 hm
      obtain rfl := b3 p hp q hq e
      rw [hf] at hps
      cases hps
    | some i =>
      obtain ⟨p, hp, e⟩ := (isSome_iff a q.1).1 (by rw [hf]; rfl)
      obtain ⟨c1, c2⟩ := k1.at ((k2 p).2 (.inl hp))
      rw [e] at c1 c2
      refine ⟨c1, ⟨fun h => absurd (c2.symm.trans h) (hx p hp q hq), fun hm => absurd ((free_mem a b q.2).2 ⟨q, hq, by rw [hf]; rfl, rfl⟩) hm⟩⟩
/-- One by one, in whatever order. -/
theorem finds_step {m left l : List (Int × Int)} {i : Nat} {p : Int × Int} (hl : Asc l) (hm : Asc m) (hp : (m ++ left).Perm l) (hi : left[i]? = some p) :
    Asc (tPut m p.1 p.2) ∧ (tPut m p.1 p.2 ++ (left.take i ++ left.drop (i + 1))).Perm l := by
  have hn : (m ++ left).Nodup := hp.nodup_iff.2 hl.nodup
  have hne : ∀ q ∈ m, q.1 ≠ p.1 := fun q hq e => by
    have h1 : q ∈ l := hp.mem_iff.1 (List.mem_append_left _ hq)
    have h2 : p ∈ l := hp.mem_iff.1 (List.mem_append_right _ (List.mem_of_getElem? hi))
    obtain rfl := hl.one h1 h2 e
    exact (List.nodup_append.1 hn).2.2 q hq q (List.mem_of_getElem? hi) rfl
  refine ⟨tPut_asc hm _ _, ?_⟩
  have e : left = left.take i ++ p :: left.drop (i + 1) := by
    obtain ⟨h, he⟩ := List.getElem?_eq_some_iff.1 hi
    rw [← he, ← List.drop_eq_getElem_cons h, List.take_append_drop]
  have h2 : (m ++ (left.take i ++ p :: left.drop (i + 1))).Perm l := by rw [← e]; exact hp
  refine ((tPut_perm p.2 hne).append_right _).trans (List.Perm.trans ?_ h2)
  show ((p :: m) ++ (left.take i ++ left.drop (i + 1))).Perm _
  rw [← List.append_assoc m, List.cons_append, ← List.append_assoc]
  exact List.perm_middle.symm
theorem finds_end {m l : List (Int × Int)} (hl : Asc l) (hm : Asc m) (hp : (m ++ []).Perm l) : m = l := by
  rw [List.append_nil] at hp
  refine List.Perm.eq_of_pairwise (le := fun (p q : Int × Int) => p.1 < q.1) (fun p q _ _ h1 h2 => by omega) hm hl hp
end Go.Proofs.Ytlnkfphkgjcdiaa
