/- The document's functions of chain: Index, Holder, Changed, Good; what the laws about them share. -/
import Derived.Test.YtiidfffedoekiaaTbRf2
import Derived.Test.YtiidfffedoekiaaChCg
import Derived.Test.YtiidfffedoekiaaChHo
import Derived.Test.YtiidfffedoekiaaBiRef
import Derived.Test.YtiidfffedoekiaaTbRf1
import Derived.Test.YtiidfffedoekiaaChRf2
import Derived.Test.YtiidfffedoekiaaArgSl
namespace Go.Proofs.Ytiidfffedoekiaa
section
set_option linter.unusedVariables false

/-- The blocks rise. -/
def Asc (l : List (Int × Int)) : Prop := l.Pairwise fun p q => p.1 < q.1
/-- No At twice. -/
def AtOne (l : List (Int × Int)) : Prop := ∀ p ∈ l, ∀ q ∈ l, p.2 = q.2 → p = q
def InAll (l : List (Int × Int)) (blocks area : Int) : Prop := ∀ p ∈ l, 0 ≤ p.1 ∧ p.1 < blocks ∧ 0 ≤ p.2 ∧ p.2 < area

theorem tRise_iff (bl ar : Int) : ∀ (l : List (Int × Int)) (last : Int), tRise bl ar last l = true ↔ (∀ p ∈ l, last < p.1 ∧ p.1 < bl ∧ 0 ≤ p.2 ∧ p.2 < ar) ∧ Asc l
  | [], last => by simp [tRise, Asc]
  | p :: l, last => by
    unfold tRise
    rw [Bool.and_eq_true, tRise_iff bl ar l p.1]
    simp only [Bool.and_eq_true, decide_eq_true_eq, Asc, List.pairwise_cons, List.mem_cons, forall_eq_or_imp]
    constructor
    · rintro ⟨⟨⟨⟨h1, h2⟩, h3⟩, h4⟩, h5, h6⟩
      exact ⟨⟨⟨h1, h2, h3, h4⟩, fun q hq => ⟨by have := (h5 q hq).1; omega, (h5 q hq).2⟩⟩, fun q hq => (h5 q hq).1, h6⟩
    · rintro ⟨⟨⟨h1, h2, h3, h4⟩, h5⟩, h6, h7⟩
      exact ⟨⟨⟨⟨h1, h2⟩, h3⟩, h4⟩, fun q hq => ⟨h6 q hq, (h5 q hq).2⟩, h7⟩
theorem Asc.nodup {l : List (Int × Int)} (h : Asc l) : l.Nodup := h.imp fun h e => by subst e; omega
theorem nodup_at {l : List (Int × Int)} (hn : l.Nodup) : (l.map (·.2)).Nodup ↔ AtOne l := by
  constructor
  · intro h p hp q hq e
    obtain ⟨i, hi⟩ := List.getElem?_of_mem hp
    obtain ⟨j, hj⟩ := List.getElem?_of_mem hq
    obtain ⟨hil, hie⟩ := List.getElem?_eq_some_iff.1 hi
    obtain ⟨hjl, hje⟩ := List.getElem?_eq_some_iff.1 hj
    have hw := List.pairwise_iff_getElem.1 h
    rcases Nat.lt_trichotomy i j with hij | hij | hij
    · exact absurd (by rw [List.getElem_map, List.getElem_map, hie, hje]; exact e) (hw i j (by simpa using hil) (by simpa using hjl) hij)
    · subst hij; rw [hi] at hj; cases hj; rfl
    · exact absurd (by rw [List.getElem_map, List.getElem_map, hie, hje]; exact e.symm) (hw j i (by simpa using hjl) (by simpa using hil) hij)
  · intro h
    refine List.pairwise_map.2 (hn.imp_of_mem fun ha hb hne e => hne (h _ ha _ hb e))
theorem tGood_iff (l : List (Int × Int)) (bl ar : Int) : tGood l bl ar = true ↔ InAll l bl ar ∧ Asc l ∧ AtOne l := by
  unfold tGood
  rw [Bool.and_eq_true, decide_eq_true_eq, tRise_iff]
  constructor
  · rintro ⟨⟨h1, h2⟩, h3⟩
    exact ⟨fun p hp => by have := h1 p hp; omega, h2, (nodup_at h2.nodup).1 h3⟩
  · rintro ⟨h1, h2, h3⟩
    exact ⟨⟨fun p hp => by have := h1 p hp; omega, h2⟩, (nodup_at h2.nodup).2 h3⟩
theorem isSome_iff (l : List (Int × Int)) (b : Int) : (tFind l b).isSome = true ↔ ∃ p ∈ l, p.1 = b := by
  cases h : tFind l b with
  | none =>
    simp only [Option.isSome_none, Bool.false_eq_true, false_iff]
    rintro ⟨p, hp, e⟩
    obtain ⟨j, hj⟩ := List.getElem?_of_mem hp
    exact tFind_none.1 h j p hj e
  | some i =>
    simp only [Option.isSome_some, true_iff]
    obtain ⟨⟨p, hp, e⟩, -⟩ := tFind_some.1 h
    exact ⟨p, List.mem_of_getElem? hp, e⟩
theorem isNone_iff (l : List (Int × Int)) (b : Int) : tFind l b = none ↔ ∀ p ∈ l, p.1 ≠ b := by
  rw [← Option.not_isSome_iff_eq_none, isSome_iff]
  exact ⟨fun h p hp e => h ⟨p, hp, e⟩, fun h ⟨p, hp, e⟩ => h p hp e⟩
theorem Asc.one {l : List (Int × Int)} (h : Asc l) {p q : Int × Int} (hp : p ∈ l) (hq : q ∈ l) (e : p.1 = q.1) : p = q := by
  obtain ⟨i, hi⟩ := List.getElem?_of_mem hp
  obtain ⟨j, hj⟩ := List.getElem?_of_mem hq
  obtain ⟨hil, hie⟩ := List.getElem?_eq_some_iff.1 hi
  obtain ⟨hjl, hje⟩ := List.getElem?_eq_some_iff.1 hj
  have hw := List.pairwise_iff_getElem.1 h
  rcases Nat.lt_trichotomy i j with hij | hij | hij
  · have := hw i j hil hjl hij; rw [hie, hje] at this; omega
  · subst hij; rw [hi] at hj; cases hj; rfl
  · have := hw j i hjl hil hij; rw [hie, hje] at this; omega
theorem Asc.at {l : List (Int × Int)} (h : Asc l) {p : Int × Int} (hp : p ∈ l) : (tFind l p.1).isSome = true ∧ tAt l p.1 = p.2 := by
  have h1 : (tFind l p.1).isSome = true := (isSome_iff _ _).2 ⟨p, hp, rfl⟩
  refine ⟨h1, ?_⟩
  obtain ⟨i, hi⟩ := Option.isSome_iff_exists.1 h1
  obtain ⟨⟨q, hq, e⟩, -⟩ := tFind_some.1 hi
  unfold tAt
  rw [hi]
  simp only [hq, Option.getD_some]
  rw [h.one (List.mem_of_getElem? hq) hp e]
theorem take_lt {l : List (Int × Int)} {b : Int} (hn : ∀ p ∈ l, p.1 ≠ b) {p : Int × Int} (hp : p ∈ l.take (tGt l b)) : p.1 < b := by
  obtain ⟨j, hj⟩ := List.getElem?_of_mem hp
  rw [List.getElem?_take] at hj
  split at hj
  · rename_i h
    have := tGt_lt hj h
    have := hn p (List.mem_of_getElem? hj)
    omega
  · cases hj
theorem drop_gt {l : List (Int × Int)} (h : Asc l) {b : Int} {p : Int × Int} (hp : p ∈ l.drop (tGt l b)) : b < p.1 := by
  obtain ⟨j, hj⟩ := List.getElem?_of_mem hp
  rw [List.getElem?_drop] at hj
  obtain ⟨hl, he⟩ := List.getElem?_eq_some_iff.1 hj
  have h0 : l[tGt l b]? = some l[tGt l b] := List.getElem?_eq_getElem (by omega)
  have h1 := tGt_at h0
  by_cases e : j = 0
  · subst e
    rw [Nat.add_zero] at hj
    rw [h0] at hj; cases hj
    exact h1
  · have := List.pairwise_iff_getElem.1 h (tGt l b) (tGt l b + j) (by omega) hl (by omega)
    rw [he] at this
    omega
theorem tPut_mem {l : List (Int × Int)} (h : Asc l) (b a : Int) (q : Int × Int) : q ∈ tPut l b a ↔ q = (b, a) ∨ (q ∈ l ∧ q.1 ≠ b) := by
  unfold tPut
  cases hf : tFind l b with
  | none =>
    have hn := (isNone_iff l b).1 hf
    simp only [tIns, List.mem_append, List.mem_cons]
    constructor
    · rintro (h1 | h1 | h1)
      · exact .inr ⟨List.mem_of_mem_take h1, hn q (List.mem_of_mem_take h1)⟩
      · exact .inl h1
      · exact .inr ⟨List.mem_of_mem_drop h1, hn q (List.mem_of_mem_drop h1)⟩
    · rintro (h1 | ⟨h1, h2⟩)
      · exact .inr (.inl h1)
      · rw [← List.take_append_drop (tGt l b) l, List.mem_append] at h1
        rcases h1 with h1 | h1
        · exact .inl h1
        · exact .inr (.inr h1)
  | some i =>
    obtain ⟨⟨p, hp, e⟩, -⟩ := tFind_some.1 hf
    have hil := (List.getElem?_eq_some_iff.1 hp).1
    simp only
    constructor
    · intro hq
      obtain ⟨j, hj⟩ := List.getElem?_of_mem hq
      by_cases hij : i = j
      · subst hij
        rw [List.getElem?_set_self hil] at hj
        cases hj
        exact .inl rfl
      · rw [List.getElem?_set_ne hij] at hj
        refine .inr ⟨List.mem_of_getElem? hj, fun e2 => ?_⟩
        obtain ⟨hjl, hje⟩ := List.getElem?_eq_some_iff.1 hj
        obtain ⟨_, hie⟩ := List.getElem?_eq_some_iff.1 hp
        have hw := List.pairwise_iff_getElem.1 h
        rcases Nat.lt_or_gt_of_ne hij with hlt | hlt
        · have := hw i j hil hjl hlt; rw [hie, hje] at this; omega
        · have := hw j i hjl hil hlt; rw [hie, hje] at this; omega
    · rintro (rfl | ⟨hq, hne⟩)
      · exact List.mem_iff_getElem?.2 ⟨i, List.getElem?_set_self hil⟩
      · obtain ⟨j, hj⟩ := List.getElem?_of_mem hq
        refine List.mem_iff_getElem?.2 ⟨j, ?_⟩
        rw [List.getElem?_set_ne (fun e2 => ?_)]
        · exact hj
        · subst e2; rw [hp] at hj; cases hj; exact hne e
theorem tPut_asc {l : List (Int × Int)} (h : Asc l) (b a : Int) : Asc (tPut l b a) := by
  unfold tPut
  cases hf : tFind l b with
  | none =>
    have hn := (isNone_iff l b).1 hf
    simp only [tIns, Asc]
    refine List.pairwise_append.2 ⟨List.Pairwise.sublist (List.take_sublist _ _) h, List.pairwise_cons.2 ⟨fun q hq => drop_gt h hq, List.Pairwise.sublist (List.drop_sublist _ _) h⟩, fun p hp q hq => ?_⟩
    rcases List.mem_cons.1 hq with rfl | hq
    · exact take_lt hn hp
    · have h1 := take_lt hn hp
      have h2 := drop_gt h hq
      omega
  | some i =>
    obtain ⟨⟨p, hp, e⟩, -⟩ := tFind_some.1 hf
    obtain ⟨hil, hie⟩ := List.getElem?_eq_some_iff.1 hp
    simp only [Asc]
    refine List.pairwise_iff_getElem.2 fun j k hj hk hjk => ?_
    have hw := List.pairwise_iff_getElem.1 h
    rw [List.length_set] at hj hk
    rw [List.getElem_set, List.getElem_set]
    split
    · split
      · omega
      · rename_i h1 h2
        subst h1
        have := hw i k hj hk hjk
        rw [hie] at this
        simpa [e] using this
    · split
      · rename_i h1 h2
        subst h2
        have := hw j i hj hk hjk
        rw [hie] at this
        simpa [e] using this
      · exact hw j k hj hk hjk
theorem tPut_len (l : List (Int × Int)) (b a : Int) : (tPut l b a).length = if (tFind l b).isSome then l.length else l.length + 1 := by
  unfold tPut
  cases hf : tFind l b with
  | none => simp [tIns_length _ (tGt_le l b)]
  | some i => simp
theorem tPut_perm {l : List (Int × Int)} {b : Int} (a : Int) (hn : ∀ p ∈ l, p.1 ≠ b) : (tPut l b a).Perm ((b, a) :: l) := by
  unfold tPut
  rw [(isNone_iff l b).2 hn]
  simp only [tIns]
  refine List.perm_middle.trans ?_
  rw [List.take_append_drop]

/-- TablePuts, as a plain fact. -/
theorem puts_fact {l : List (Int × Int)} (h : tGood l 64 200 = true) {b a : Int} (hb0 : 0 ≤ b) (hb1 : b < 64) (ha0 : 200 ≤ a) (ha1 : a < 500) :
    (tFind (tPut l b a) b).isSome = true ∧ tAt (tPut l b a) b = a ∧ tGood (tPut l b a) 64 500 = true ∧
    (∀ p ∈ l, (tFind (tPut l b a) p.1).isSome = true ∧ (p.1 ≠ b → tAt (tPut l b a) p.1 = p.2)) := by
  obtain ⟨h1, h2, h3⟩ := (tGood_iff _ _ _).1 h
  have hasc := tPut_asc h2 b a
  have hm := tPut_mem h2 b a
  have h0 := hasc.at ((hm (b, a)).2 (.inl rfl))
  refine ⟨h0.1, h0.2, (tGood_iff _ _ _).2 ⟨fun p hp => ?_, hasc, fun p hp q hq e => ?_⟩, fun p hp => ⟨?_, fun hne => ?_⟩⟩
  · rcases (hm p).1 hp with rfl | ⟨hp, -⟩
    · exact ⟨hb0, hb1, by simp only; omega, by simp only; omega⟩
    · have := h1 p hp; omega
  · rcases (hm p).1 hp with rfl | ⟨hp, -⟩
    · rcases (hm q).1 hq with rfl | ⟨hq, -⟩
      · rfl
      · have := h1 q hq; simp only at e; omega
    · rcases (hm q).1 hq with rfl | ⟨hq, -⟩
      · have := h1 p hp; simp only at e; omega
      · exact h3 p hp q hq e
  · refine (isSome_iff _ _).2 ?_
    by_cases e : p.1 = b
    · exact ⟨(b, a), (hm _).2 (.inl rfl), e.symm⟩
    · exact ⟨p, (hm p).2 (.inr ⟨hp, e⟩), rfl⟩
  · exact (hasc.at ((hm p).2 (.inr ⟨hp, hne⟩))).2

/-- What is kept of both. -/
theorem keep_fact (a : List (Int × Int)) : ∀ (b m : List (Int × Int)), Asc m → Asc b → (∀ p ∈ b, tFind a p.1 = none → ∀ q ∈ m, q.1 ≠ p.1) →
    Asc (tKeep a m b) ∧ (∀ q, q ∈ tKeep a m b ↔ q ∈ m ∨ (q ∈ b ∧ tFind a q.1 = none)) ∧ (tKeep a m b).length + (tFree a b).length = m.length + b.length
  | [], m, hm, _, _ => by simp [tKeep, tFree, hm]
  | p :: b, m, hm, hb, hx => by
    obtain ⟨hpb, hb'⟩ := List.pairwise_cons.1 hb
    unfold tKeep
    cases hf : tFind a p.1 with
    | some i =>
      simp only [Option.isSome_some, if_true]
      obtain ⟨i1, i2, i3⟩ := keep_fact a b m hm hb' fun q hq => hx q (List.mem_cons_of_mem _ hq)
      refine ⟨i1, fun q => ?_, ?_⟩
      · rw [i2 q]
        constructor
        · rintro (h | ⟨h, h'⟩)
          · exact .inl h
          · exact .inr ⟨List.mem_cons_of_mem _ h, h'⟩
        · rintro (h | ⟨h, h'⟩)
          · exact .inl h
          · rcases List.mem_cons.1 h with rfl | h
            · rw [hf] at h'; cases h'
            · exact .inr ⟨h, h'⟩
      · have e : tFree a (p :: b) = p.2 :: tFree a b := by
          unfold tFree
          rw [List.filter_cons_of_pos (by rw [hf]; rfl)]
          rfl
        rw [e]
        simp only [List.length_cons]
        omega
    | none =>
      simp only [Option.isSome_none, Bool.false_eq_true, if_false]
      have hnm : ∀ q ∈ m, q.1 ≠ p.1 := hx p (List.mem_cons_self ..) hf
      have hpm := tPut_mem hm p.1 p.2
      obtain ⟨i1, i2, i3⟩ := keep_fact a b (tPut m p.1 p.2) (tPut_asc hm _ _) hb' fun q hq hq' r hr => by
        rcases (hpm r).1 hr with rfl | ⟨hr, -⟩
        · have := hpb q hq; simp only; omega
        · exact hx q (List.mem_cons_of_mem _ hq) hq' r hr
      refine ⟨i1, fun q => ?_, ?_⟩
      · rw [i2 q, hpm q]
        constructor
        · rintro ((rfl | ⟨h, -⟩) | ⟨h, h'⟩)
          · exact .inr ⟨List.mem_cons_self .., hf⟩
          · exact .inl h
          · exact .inr ⟨List.mem_cons_of_mem _ h, h'⟩
        · rintro (h | ⟨h, h'⟩)
          · exact .inl (.inr ⟨h, hnm q h⟩)
          · rcases List.mem_cons.1 h with rfl | h
            · exact .inl (.inl rfl)
            · exact .inr ⟨h, h'⟩
      · have e : tFree a (p :: b) = tFree a b := by
          unfold tFree
          rw [List.filter_cons_of_neg (by rw [hf]; simp)]
        rw [e]
        rw [tPut_len, (isNone_iff m p.1).2 hnm] at i3
        simp only [Option.isSome_none, Bool.false_eq_true, if_false] at i3
        simp only [List.length_cons]
        omega
theorem free_mem (a b : List (Int × Int)) (n : Int) : n ∈ tFree a b ↔ ∃ p ∈ b, (tFind a p.1).isSome = true ∧ p.2 = n := by
  unfold tFree
  rw [List.mem_map]
  constructor
  · rintro ⟨p, hp, rfl⟩
    obtain ⟨h1, h2⟩ := List.mem_filter.1 hp
    exact ⟨p, h1, h2, rfl⟩
  · rintro ⟨p, h1, h2, rfl⟩
    exact ⟨p, List.mem_filter.2 ⟨h1, h2⟩, rfl⟩
/-- TableMerges, as a plain fact. -/
theorem merges_fact {a b : List (Int × Int)} (ha : tGood a 64 200 = true) (hb : tGood b 64 200 = true) (hx : ∀ p ∈ a, ∀ q ∈ b, p.2 ≠ q.2) :
    tGood (tKeep a a b) 64 200 = true ∧ (tKeep a a b).length + (tFree a b).length = a.length + b.length ∧
    (∀ p ∈ a, (tFind (tKeep a a b) p.1).isSome = true ∧ tAt (tKeep a a b) p.1 = p.2) ∧
    (∀ q ∈ b, (tFind (tKeep a a b) q.1).isSome = true ∧ (tAt (tKeep a a b) q.1 = q.2 ↔ q.2 ∉ tFree a b)) := by
  obtain ⟨a1, a2, a3⟩ := (tGood_iff _ _ _).1 ha
  obtain ⟨b1, b2, b3⟩ := (tGood_iff _ _ _).1 hb
  obtain ⟨k1, k2, k3⟩ := keep_fact a b a a2 b2 fun p hp hn q hq => (isNone_iff a p.1).1 hn q hq
  refine ⟨(tGood_iff _ _ _).2 ⟨fun p hp => ?_, k1, fun p hp q hq e => ?_⟩, k3, fun p hp => k1.at ((k2 p).2 (.inl hp)), fun q hq => ?_⟩
  · rcases (k2 p).1 hp with h | ⟨h, -⟩
    · exact a1 p h
    · exact b1 p h
  · rcases (k2 p).1 hp with h | ⟨h, -⟩ <;> rcases (k2 q).1 hq with h' | ⟨h', -⟩
    · exact a3 p h q h' e
    · exact absurd e (hx p h q h')
    · exact absurd e.symm (hx q h' p h)
    · exact b3 p h q h' e
  · cases hf : tFind a q.1 with
    | none =>
      obtain ⟨c1, c2⟩ := k1.at ((k2 q).2 (.inr ⟨hq, hf⟩))
      refine ⟨c1, ⟨fun _ hm => ?_, fun _ => c2⟩⟩
      obtain ⟨p, hp, hps, e⟩ := (free_mem a b q.2).1 hm
      obtain rfl := b3 p hp q hq e
      rw [hf] at hps
      cases hps
    | some i =>
      obtain ⟨p, hp, e⟩ := (isSome_iff a q.1).1 (by rw [hf]; rfl)
      obtain ⟨c1, c2⟩ := k1.at ((k2 p).2 (.inl hp))
      rw [e] at c1 c2
      refine ⟨c1, ⟨fun h => absurd (c2.symm.trans h) (hx p hp q hq), fun hm => absurd ((free_mem a b q.2).2 ⟨q, hq, by rw [hf]; rfl, rfl⟩) hm⟩⟩
/-- One by one, in whatever order. -/
theorem finds_step {m left l : List (Int × Int)} {i : Nat} {p : Int × Int} (hl : Asc l) (hm : Asc m) (hp : (m ++ left).Perm l) (hi : left[i]? = some p) :
    Asc (tPut m p.1 p.2) ∧ (tPut m p.1 p.2 ++ (left.take i ++ left.drop (i + 1))).Perm l := by
  have hn : (m ++ left).Nodup := hp.nodup_iff.2 hl.nodup
  have hne : ∀ q ∈ m, q.1 ≠ p.1 := fun q hq e => by
    have h1 : q ∈ l := hp.mem_iff.1 (List.mem_append_left _ hq)
    have h2 : p ∈ l := hp.mem_iff.1 (List.mem_append_right _ (List.mem_of_getElem? hi))
    obtain rfl := hl.one h1 h2 e
    exact (List.nodup_append.1 hn).2.2 q hq q (List.mem_of_getElem? hi) rfl
  refine ⟨tPut_asc hm _ _, ?_⟩
  have e : left = left.take i ++ p :: left.drop (i + 1) := by
    obtain ⟨h, he⟩ := List.getElem?_eq_some_iff.1 hi
    rw [← he, ← List.drop_eq_getElem_cons h, List.take_append_drop]
  have h2 : (m ++ (left.take i ++ p :: left.drop (i + 1))).Perm l := by rw [← e]; exact hp
  refine ((tPut_perm p.2 hne).append_right _).trans (List.Perm.trans ?_ h2)
  show ((p :: m) ++ (left.take i ++ left.drop (i + 1))).Perm _
  rw [← List.append_assoc m, List.cons_append, ← List.append_assoc]
  exact List.perm_middle.symm
theorem finds_end {m l : List (Int × Int)} (hl : Asc l) (hm : Asc m) (hp : (m ++ []).Perm l) : m = l := by
  rw [List.append_nil] at hp
  refine List.Perm.eq_of_pairwise (le := fun (p q : Int × Int) => p.1 < q.1) (fun p q _ _ h1 h2 => by omega) hm hl hp
end
section
open Go.RowKit Go.Shelf

def rS (bl ar last : Int) (s : SN) : Bool := decide (0 < s.id) && (decide (s.id ≤ 1000000) && (decide (last < s.id) && (goodB s.ch bl && tGood s.tb bl ar)))
def rT (ats : List Int) (s : SN) : Bool := s.tb.all fun p => hasB s.ch p.1 && !(ats.contains p.2)
def rF (s : SN) : Bool := (allB s.ch).all fun c => (tFind s.tb (c : Int)).isSome
def rGo (bl ar : Int) : List Int → Int → List SN → Bool
  | _, _, [] => true
  | ats, last, s :: l => rS bl ar last s && (rT ats s && ((decide (l.length = 0) || rF s) && rGo bl ar (ats ++ s.tb.map (·.2)) s.id l))
theorem rGo_cons (bl ar last : Int) (ats : List Int) (s : SN) (l : List SN) : rGo bl ar ats last (s :: l) = (rS bl ar last s && (rT ats s && ((decide (l.length = 0) || rF s) && rGo bl ar (ats ++ s.tb.map (·.2)) s.id l))) := rfl
theorem rGo_at {l : List SN} {k : Nat} {s : SN} (h : l[k]? = some s) (bl ar last : Int) (ats : List Int) : rGo bl ar ats last (l.drop k) = (rS bl ar last s && (rT ats s && ((decide (l.length ≤ k + 1) || rF s) && rGo bl ar (ats ++ s.tb.map (·.2)) s.id (l.drop (k + 1))))) := by
  rw [drop_at h]
  rw [rGo_cons, List.length_drop, show decide (l.length - (k + 1) = 0) = decide (l.length ≤ k + 1) from by congr 1; simp; omega]
theorem rGo_end {l : List SN} {k : Nat} (h : l.length ≤ k) (bl ar last : Int) (ats : List Int) : rGo bl ar ats last (l.drop k) = true := by
  rw [List.drop_of_length_le h]; rfl

theorem nodup_sub : ∀ (a b : List Nat), a.Nodup → (∀ x ∈ a, x ∈ b) → a.length ≤ b.length
  | [], _, _, _ => Nat.zero_le _
  | x :: a, b, h, hs => by
    obtain ⟨h1, h2⟩ := List.nodup_cons.1 h
    have hx := hs x (List.mem_cons_self ..)
    have := nodup_sub a (b.erase x) h2 fun y hy => (List.mem_erase_of_ne (fun (e : y = x) => h1 (e ▸ hy))).2 (hs y (List.mem_cons_of_mem _ hy))
    rw [List.length_erase_of_mem hx] at this
    have := List.length_pos_of_mem hx
    simp only [List.length_cons]
    omega
theorem all_nodup (bs : List Int) : (allB bs).Nodup := (all_sorted bs).imp fun h => Nat.ne_of_lt h

theorem full_iff {s : SN} {bl ar : Int} (hg : tGood s.tb bl ar = true) (hh : ∀ p ∈ s.tb, hasB s.ch p.1 = true) : fullS s = rF s := by
  unfold tGood at hg
  rw [Bool.and_eq_true] at hg
  obtain ⟨hp, hasc⟩ := (tRise_iff bl ar s.tb (-1)).1 hg.1
  obtain ⟨T, hT⟩ : ∃ T, s.tb.map (fun p => p.1.toNat) = T := ⟨_, rfl⟩
  have hTn : T.Nodup := by
    rw [← hT]
    refine List.pairwise_map.2 ?_
    refine hasc.imp_of_mem ?_
    intro a b ha hb h e
    have h1 := hp a ha
    have h2 := hp b hb
    omega
  have hTs : ∀ x ∈ T, x ∈ allB s.ch := by
    intro x hx
    rw [← hT] at hx
    obtain ⟨p, hm, rfl⟩ := List.mem_map.1 hx
    have := hh p hm
    unfold hasB at this
    rw [Bool.and_eq_true] at this
    exact mem_all.2 this.2
  have hl : T.length = s.tb.length := by rw [← hT, List.length_map]
  have hle := nodup_sub T _ hTn hTs
  have hmem : ∀ c : Nat, (tFind s.tb (c : Int)).isSome = true ↔ c ∈ T := by
    intro c
    constructor
    · intro h
      obtain ⟨i, hi⟩ := Option.isSome_iff_exists.1 h
      obtain ⟨⟨p, hpi, hpc⟩, -⟩ := tFind_some.1 hi
      rw [← hT]
      exact List.mem_map.2 ⟨p, List.mem_of_getElem? hpi, by omega⟩
    · intro h
      rw [← hT] at h
      obtain ⟨p, hm, hc⟩ := List.mem_map.1 h
      obtain ⟨j, hj⟩ := List.getElem?_of_mem hm
      have h0 := (hp p hm).1
      cases hf : tFind s.tb (c : Int) with
      | some i => rfl
      | none => exact absurd (show p.1 = (c : Int) by omega) (tFind_none.1 hf j p hj)
  unfold fullS rF
  rw [Bool.eq_iff_iff, decide_eq_true_eq, List.all_eq_true]
  constructor
  · intro he c hc
    rw [hmem]
    by_cases hn : c ∈ T
    · exact hn
    · have := nodup_sub (c :: T) (allB s.ch) (List.nodup_cons.2 ⟨hn, hTn⟩) (by
        intro x hx
        rcases List.mem_cons.1 hx with rfl | hx
        · exact hc
        · exact hTs x hx)
      simp only [List.length_cons] at this
      omega
  · intro h
    have := nodup_sub _ T (all_nodup s.ch) fun c hc => (hmem c).1 (h c hc)
    omega

theorem rGo_is (bl ar : Int) : ∀ (l : List SN) (ats : List Int) (last : Int), ats.Nodup → 0 ≤ last → rGo bl ar ats last l = (cRise bl ar last l && decide (ats ++ cAts l).Nodup)
  | [], ats, last, h, _ => by
    show true = (true && _)
    rw [show cAts [] = [] from rfl, List.append_nil, decide_eq_true h]; rfl
  | s :: l, ats, last, h, h0 => by
    rw [rGo_cons, cRise_cons]
    by_cases hP : last < s.id ∧ s.id ≤ 1000000 ∧ goodB s.ch bl = true ∧ tGood s.tb bl ar = true ∧ ∀ p ∈ s.tb, hasB s.ch p.1 = true
    · obtain ⟨p1, p2, p3, p4, p5⟩ := hP
      have hS : rS bl ar last s = true := by
        unfold rS
        rw [p3, p4, decide_eq_true p1, decide_eq_true p2, decide_eq_true (show 0 < s.id by omega)]; rfl
      have hFt : fitS s bl ar = true := by
        unfold fitS
        rw [p3, p4, List.all_eq_true.2 p5]; rfl
      rw [hS, decide_eq_true p1, decide_eq_true p2, hFt, full_iff p4 p5]
      simp only [Bool.true_and]
      have hN : (s.tb.map (·.2)).Nodup := by
        unfold tGood at p4
        rw [Bool.and_eq_true, decide_eq_true_eq] at p4
        exact p4.2
      have hA : cAts (s :: l) = s.tb.map (·.2) ++ cAts l := rfl
      by_cases hD : ∀ p ∈ s.tb, p.2 ∉ ats
      · have hT : rT ats s = true := by
          unfold rT
          rw [List.all_eq_true]
          intro p hp
          rw [p5 p hp, Bool.true_and, Bool.not_eq_true']
          simpa using hD p hp
        have hN2 : (ats ++ s.tb.map (·.2)).Nodup := by
          rw [List.nodup_append]
          refine ⟨h, hN, fun a ha b hb e => ?_⟩
          obtain ⟨p, hp, rfl⟩ := List.mem_map.1 hb
          exact hD p hp (e ▸ ha)
        rw [hT, Bool.true_and, rGo_is bl ar l _ _ hN2 (by omega), hA, ← List.append_assoc, Bool.and_assoc]
      · have hT : rT ats s = false := by
          unfold rT
          rw [Bool.eq_false_iff]
          intro e
          rw [List.all_eq_true] at e
          refine hD fun p hp hm => ?_
          have := e p hp
          rw [Bool.and_eq_true] at this
          simp [hm] at this
        have hN2 : ¬ (ats ++ cAts (s :: l)).Nodup := by
          intro hn
          refine hD fun p hp hm => ?_
          rw [hA, List.nodup_append] at hn
          exact hn.2.2 p.2 hm p.2 (List.mem_append_left _ (List.mem_map.2 ⟨p, hp, rfl⟩)) rfl
        rw [hT, decide_eq_false hN2, Bool.and_false, Bool.false_and]
    · have hL : (rS bl ar last s && rT ats s) = false := by
        rw [Bool.eq_false_iff]
        intro e
        unfold rS rT at e
        simp only [Bool.and_eq_true, decide_eq_true_eq, List.all_eq_true] at e
        exact hP ⟨e.1.2.2.1, e.1.2.1, e.1.2.2.2.1, e.1.2.2.2.2, fun p hp => (e.2 p hp).1⟩
      have hR : (decide (last < s.id) && (decide (s.id ≤ 1000000) && fitS s bl ar)) = false := by
        rw [Bool.eq_false_iff]
        intro e
        unfold fitS at e
        simp only [Bool.and_eq_true, decide_eq_true_eq, List.all_eq_true] at e
        exact hP ⟨e.1, e.2.1, e.2.2.1, e.2.2.2.1, e.2.2.2.2⟩
      rw [← Bool.and_assoc, hL, Bool.false_and]
      rw [show (decide (last < s.id) && (decide (s.id ≤ 1000000) && (fitS s bl ar && ((decide (l.length = 0) || fullS s) && cRise bl ar s.id l)))) = ((decide (last < s.id) && (decide (s.id ≤ 1000000) && fitS s bl ar)) && ((decide (l.length = 0) || fullS s) && cRise bl ar s.id l)) from by simp only [Bool.and_assoc], hR, Bool.false_and, Bool.false_and]
theorem rGood_is (l : List SN) (bl ar : Int) (h : l.length ≤ 8) : cGood l bl ar = rGo bl ar [] 0 l := by
  rw [rGo_is bl ar l [] 0 List.nodup_nil (Int.le_refl _)]
  unfold cGood
  rw [decide_eq_true h]
  rfl
end
section
open Go.RowKit
set_option linter.unusedVariables false
set_option linter.unusedSimpArgs false
attribute [-simp] Try.isAgg42 Try.zeroValue42
attribute [-go_sem] loadVar storeVar
attribute [local go_sem] loadVar_openP storeVar_openP zero_prs build_prs0 build_prs

theorem nodup_snoc {l : List (Int × Int)} {k : Nat} {x y : Int} (hk : l[k]? = some (x, y)) (h1 : ((l.take k).map (·.2)).Nodup) (h2 : ∀ (j : Nat) (p : Int × Int), j < k → l[j]? = some p → p.2 ≠ y) : ((l.take (k + 1)).map (·.2)).Nodup := by
  rw [List.take_add_one, hk, List.map_append, List.nodup_append]
  refine ⟨h1, by simp, fun a ha b hb e => ?_⟩
  simp at hb
  subst hb
  subst e
  obtain ⟨p, hp, he⟩ := List.mem_map.1 ha
  obtain ⟨j, hj⟩ := List.getElem?_of_mem hp
  rw [List.getElem?_take] at hj
  split at hj
  · rename_i hjk
    exact h2 j p hjk hj he
  · cases hj
theorem nodup_not {l : List (Int × Int)} {j k : Nat} {p q : Int × Int} (hj : l[j]? = some p) (hk : l[k]? = some q) (hjk : j < k) (he : p.2 = q.2) : ¬ (l.map (·.2)).Nodup := fun h => by
  have h1 : (l.map (·.2))[j]? = some p.2 := by rw [List.getElem?_map, hj]; rfl
  have h2 : (l.map (·.2))[k]? = some q.2 := by rw [List.getElem?_map, hk]; rfl
  obtain ⟨a1, b1⟩ := List.getElem?_eq_some_iff.1 h1
  obtain ⟨a2, b2⟩ := List.getElem?_eq_some_iff.1 h2
  have := List.pairwise_iff_getElem.1 h j k a1 a2 hjk
  rw [b1, b2] at this
  exact this he

set_option maxRecDepth 100000 in
set_option maxHeartbeats 8000000 in
/-- The document's **Good**. -/
theorem rf_good {w : World} {v : Value} {l : List (Int × Int)} (h : Prt w v l) (bl ar : Int) (hlen : l.length ≤ 9223372036854775807) :
    Calls Try.prog 30 #[v, .int .i64 bl, .int .i64 ar] w fun e w' => e = .returned (.bool (tGood l bl ar)) ∧ Below w.heap.size w w' := by
  have hmx : Try.prog.follows .mixedOrders = true := by kernel_rfl
  have HP := Lib.hid h
  obtain ⟨pa, ca, rfl, -⟩ := h
  obtain ⟨n, hn⟩ : ∃ n, l.length = n := ⟨_, rfl⟩
  rw [hn] at HP hlen ⊢
  have HN := Lib.hid hn
  clear hn
  go_enter Try.func30, Try.ntmps30
  go_wp2_with fail
  go_loopw [7] (fun iv wr => ∃ (k : Nat) (last : Int), k ≤ n ∧ iv = .int .i64 (k : Int) ∧ Hid (-1 ≤ last) ∧ Hid (0 < k → ∃ p, l[k - 1]? = some p ∧ p.1 = last) ∧ Hid (k = 0 → last = -1) ∧ Hid (tRise bl ar (-1) l = tRise bl ar last (l.drop k)) ∧ Hid (((l.take k).map (·.2)).Nodup) ∧ Hid (Below w.heap.size w wr)) (fun iv _ => n - (intOf iv).toNat)
  case atStart => exact ⟨0, -1, Nat.zero_le _, rfl, Int.le_refl _, fun h => absurd h (by omega), fun _ => rfl, rfl, (by show List.Nodup _; simp), Below.refl _ _⟩
  case round =>
    obtain ⟨k, last, hk, rfl, HL1, HLP, HL0, HR, HD, HB⟩ := hrel
    by_cases hlt : k < n
    · obtain ⟨p, hp⟩ : ∃ p, l[k]? = some p := ⟨_, List.getElem?_eq_getElem (by rw [HN.out]; exact hlt)⟩
      obtain ⟨bb, off, rfl, hbb, c1, c2⟩ := (HP.out.below HB.out).at hp
      obtain ⟨x0, y0⟩ := p
      simp only at c1 c2
      have HPK := Lib.hid hp
      have hst := tRise_step hp bl ar last
      rw [← HR.out] at hst
      have HST := Lib.hid hst
      have g1 : (k : Int) < (n : Int) := by omega
      have HW : Hid (wrap64 ((k : Int) + 1) = (k : Int) + 1) := IntWalk.wrap64_in _ (by omega)
      have HW2 : Hid (wrap64 ((k : Int) - 1) = (k : Int) - 1) := IntWalk.wrap64_in _ (by omega)
      have LD := load_prs c1 c2
      have ST := new_prs wr x0 y0
      obtain ⟨W2, hW2⟩ : ∃ W2, wr.alloc (.cells #[.int .i64 x0, .int .i64 y0] 42) = W2 := ⟨_, rfl⟩
      rw [hW2] at ST
      have hb2 : Below wr.heap.size wr W2 := by rw [← hW2]; exact below_new wr _
      have HRB : Hid (RowC W2 wr.heap.size 42 (prL x0 y0)) := by show RowC _ _ _ _; rw [← hW2]; exact RowC.new wr _ _
      have HB2 : Hid (Below w.heap.size w W2) := HB.out.trans (hb2.mono HB.out.size)
      obtain ⟨W, hW⟩ : ∃ W, W2.drew = W := ⟨_, rfl⟩
      have hbW : Below W2.heap.size W2 W := by rw [← hW]; exact (Below.refl _ W2).drew
      have HBW : Hid (Below w.heap.size w W) := HB2.out.trans (hbW.mono HB2.out.size)
      have HRW := Lib.hid (HRB.out.below hbW)
      obtain ⟨B, hBn⟩ : ∃ B, wr.heap.size = B := ⟨_, rfl⟩
      rw [hBn] at ST HRW HRB
      have d0 := HRW.out.cell 0 _ rfl
      have d1 := HRW.out.cell 1 _ rfl
      have HLT := Lib.hid hlt
      clear hp hbb c1 c2 hlt hb2 hst hW2 HB HRB hbW HR
      by_cases q1 : x0 < 0
      · have e1 : decide (x0 < 0) = true := by simpa using q1
        have hl := HL1.out
        have HG : Hid (tGood l bl ar = false) := by
          show _ = _
          unfold tGood
          rw [HST.out, show decide (last < x0) = false by simp; omega]
          simp
        go_wp2_with fail
        refine region_plan (fun x => x = W) 34 (.takes [0, 1, 2, 3, 4, 5, 6, 7, 8, 9, 10, 11, 12, 13, 14, 15, 16, 17, 18, 19, 20, 21, 22, 23, 24, 25, 26, 27, 28, 29, 30, 31, 32, 33] .leaf) hmx (by kernel_rfl) (by intro c x v a w h; cases x <;> exact h) hW ?_
        rw [hW]
        clear hW
        repeat (rw [wpPlan_takes_cons]; simp only [nth_zero, nth_succ]; go_big_quiet_step (fail); try (with_reducible refine wpQuiet_nil ?_); try rw [HD5.out])
        rw [wpPlan_takes_nil, wpPlan_leaf]
        simp only [List.drop_succ_cons, List.drop_zero]
        go_wp2_with fail
        go_ret
        exact ⟨by rw [HG.out]; rfl, HBW.out⟩
      · have e1 : decide (x0 < 0) = false := by simpa using q1
        by_cases q2 : bl ≤ x0
        · have e2 : decide (x0 ≥ bl) = true := by simpa using q2
          have HG : Hid (tGood l bl ar = false) := by
            show _ = _
            unfold tGood
            rw [HST.out, show decide (x0 < bl) = false by simp; omega]
            simp
          go_wp2_with fail
          refine region_plan (fun x => x = W) 34 (.takes [0, 1, 2, 3, 4, 5, 6, 7, 8, 9, 10, 11, 12, 13, 14, 15, 16, 17, 18, 19, 20, 21, 22, 23, 24, 25, 26, 27, 28, 29, 30, 31, 32, 33] .leaf) hmx (by kernel_rfl) (by intro c x v a w h; cases x <;> exact h) hW ?_
          rw [hW]
          clear hW
          repeat (rw [wpPlan_takes_cons]; simp only [nth_zero, nth_succ]; go_big_quiet_step (fail); try (with_reducible refine wpQuiet_nil ?_); try rw [HD5.out])
          rw [wpPlan_takes_nil, wpPlan_leaf]
          simp only [List.drop_succ_cons, List.drop_zero]
          go_wp2_with fail
          go_ret
          exact ⟨by rw [HG.out]; rfl, HBW.out⟩
        · have e2 : decide (x0 ≥ bl) = false := by simpa using q2
          by_cases q3 : y0 < 0
          · have e3 : decide (y0 < 0) = true := by simpa using q3
            have HG : Hid (tGood l bl ar = false) := by
              show _ = _
              unfold tGood
              rw [HST.out, show decide (0 ≤ y0) = false by simp; omega]
              simp
            go_wp2_with fail
            refine region_plan (fun x => x = W) 34 (.takes [0, 1, 2, 3, 4, 5, 6, 7, 8, 9, 10, 11, 12, 13, 14, 15, 16, 17, 18, 19, 20, 21, 22, 23, 24, 25, 26, 27, 28, 29, 30, 31, 32, 33] .leaf) hmx (by kernel_rfl) (by intro c x v a w h; cases x <;> exact h) hW ?_
            rw [hW]
            clear hW
            repeat (rw [wpPlan_takes_cons]; simp only [nth_zero, nth_succ]; go_big_quiet_step (fail); try (with_reducible refine wpQuiet_nil ?_); try rw [HD5.out])
            rw [wpPlan_takes_nil, wpPlan_leaf]
            simp only [List.drop_succ_cons, List.drop_zero]
            go_wp2_with fail
            go_ret
            exact ⟨by rw [HG.out]; rfl, HBW.out⟩
          · have e3 : decide (y0 < 0) = false := by simpa using q3
            by_cases q4 : ar ≤ y0
            · have e4 : decide (y0 ≥ ar) = true := by simpa using q4
              have HG : Hid (tGood l bl ar = false) := by
                show _ = _
                unfold tGood
                rw [HST.out, show decide (y0 < ar) = false by simp; omega]
                simp
              go_wp2_with fail
              refine region_plan (fun x => x = W) 34 (.takes [0, 1, 2, 3, 4, 5, 6, 7, 8, 9, 10, 11, 12, 13, 14, 15, 16, 17, 18, 19, 20, 21, 22, 23, 24, 25, 26, 27, 28, 29, 30, 31, 32, 33] .leaf) hmx (by kernel_rfl) (by intro c x v a w h; cases x <;> exact h) hW ?_
              rw [hW]
              clear hW
              repeat (rw [wpPlan_takes_cons]; simp only [nth_zero, nth_succ]; go_big_quiet_step (fail); try (with_reducible refine wpQuiet_nil ?_); try rw [HD5.out])
              rw [wpPlan_takes_nil, wpPlan_leaf]
              simp only [List.drop_succ_cons, List.drop_zero]
              go_wp2_with fail
              go_ret
              exact ⟨by rw [HG.out]; rfl, HBW.out⟩
            · have e4 : decide (y0 ≥ ar) = false := by simpa using q4
              by_cases hk0 : k = 0
              · have hl0 := HL0.out hk0
                have HX0 : Hid (-1 ≤ x0) := by show -1 ≤ x0; omega
                have HRN : Hid (tRise bl ar (-1) l = tRise bl ar x0 (l.drop (k + 1))) := by
                  show _ = _
                  rw [HST.out, show decide (last < x0) = true by simp; omega, show decide (x0 < bl) = true by simp; omega, show decide (0 ≤ y0) = true by simp; omega, show decide (y0 < ar) = true by simp; omega]
                  rfl
                have HD5 : Hid (decide (0 < k) = false) := by show _ = _; simp; omega
                have HK0 := Lib.hid hk0
                clear hl0 hk0
                go_wp2_with fail
                refine region_plan (fun x => x = W) 34 (.takes [0, 1, 2, 3, 4, 5, 6, 7, 8, 9, 10, 11, 12, 13, 14, 15, 16, 17, 18, 19, 20, 21, 22, 23, 24, 25, 26, 27, 28, 29, 30, 31, 32, 33] .leaf) hmx (by kernel_rfl) (by intro c x v a w h; cases x <;> exact h) hW ?_
                rw [hW]
                clear hW
                repeat (rw [wpPlan_takes_cons]; simp only [nth_zero, nth_succ]; go_big_quiet_step (fail); try (with_reducible refine wpQuiet_nil ?_); try rw [HD5.out])
                rw [wpPlan_takes_nil, wpPlan_leaf]
                simp only [List.drop_succ_cons, List.drop_zero]
                go_wp2_with fail
                go_loopw [9] (fun jv wr => ∃ j : Nat, j ≤ k ∧ jv = .int .i64 (j : Int) ∧ Hid (∀ (i : Nat) (p : Int × Int), i < j → l[i]? = some p → p.2 ≠ y0) ∧ Hid (Below W.heap.size W wr)) (fun jv _ => k - (intOf jv).toNat)
                case atStart => exact ⟨0, Nat.zero_le _, rfl, fun i p h => absurd h (by omega), Below.refl _ _⟩
                case round =>
                  obtain ⟨j, hj, rfl, HS, HBI⟩ := hrel
                  by_cases hjk : j < k
                  · obtain ⟨q, hq⟩ : ∃ q, l[j]? = some q := ⟨_, List.getElem?_eq_getElem (by rw [HN.out]; have := HLT.out; omega)⟩
                    have hbi : Below w.heap.size w wr := HBW.out.trans (HBI.out.mono HBW.out.size)
                    obtain ⟨bb', off', he, hbb, c1, c2⟩ := (HP.out.below hbi).at hq
                    obtain ⟨x1, y1⟩ := q
                    cases he
                    simp only at c1 c2
                    obtain ⟨V, hV⟩ : ∃ V, wr.drew = V := ⟨_, rfl⟩
                    have c3 : V.cell? ⟨bb, off + j * 2 + 1, none⟩ = some (.int .i64 y1) := by rw [← hV]; exact c2
                    have c4 : V.cell? ⟨B, 1, none⟩ = some (.int .i64 y0) := by rw [← hV]; exact (HRW.out.below HBI.out).cell 1 _ rfl
                    have HBV : Hid (Below W.heap.size W V) := by show Below _ _ _; rw [← hV]; exact HBI.out.drew
                    have g3 : (j : Int) < (k : Int) := by omega
                    have HQ := Lib.hid hq
                    have HJK := Lib.hid hjk
                    have gj : (j : Int) < (n : Int) := by have := HLT.out; omega
                    have HWJ : Hid (wrap64 ((j : Int) + 1) = (j : Int) + 1) := IntWalk.wrap64_in _ (by omega)
                    clear hq hbi hbb c1 c2 hjk
                    go_wp2_with fail
                    refine region_plan (fun x => x = V) 7 (.takes [0, 1, 2, 3, 4, 5, 6] .leaf) hmx (by kernel_rfl) (by intro c x v a w h; cases x <;> exact h) hV ?_
                    rw [hV]
                    clear hV
                    repeat (rw [wpPlan_takes_cons]; simp only [nth_zero, nth_succ]; go_big_quiet_step (fail); refine wpQuiet_nil ?_)
                    rw [wpPlan_takes_nil, wpPlan_leaf]
                    simp only [List.drop_succ_cons, List.drop_zero]
                    by_cases hy : y1 = y0
                    · have qy : (y1 == y0) = true := by simpa using hy
                      have HG : Hid (tGood l bl ar = false) := by
                        show _ = _
                        unfold tGood
                        rw [decide_eq_false (nodup_not HQ.out HPK.out HJK.out hy), Bool.and_false]
                      have HBF : Hid (Below w.heap.size w V) := HBW.out.trans (HBV.out.mono HBW.out.size)
                      clear hy
                      go_wp2_with fail
                      go_ret
                      exact ⟨by rw [HG.out]; rfl, HBF.out⟩
                    · have qy : (y1 == y0) = false := by simpa using hy
                      have HS1 : Hid (∀ (i : Nat) (p : Int × Int), i < j + 1 → l[i]? = some p → p.2 ≠ y0) := fun i p hi hp => by
                        by_cases e : i = j
                        · subst e; rw [HQ.out] at hp; cases hp; exact hy
                        · exact HS.out i p (by omega) hp
                      go_wp2_with fail
                      exact ⟨⟨j + 1, HJK.out, by simp, HS1, HBV⟩, by have := HJK.out; simp [intOf]; omega⟩
                  · have e : k = j := by omega
                    have HDN : Hid (((l.take (k + 1)).map (·.2)).Nodup) := nodup_snoc HPK.out HD.out (by rw [e]; exact HS.out)
                    have HBF : Hid (Below w.heap.size w wr) := HBW.out.trans (HBI.out.mono HBW.out.size)
                    have g5 : decide ((j : Int) < (k : Int)) = false := by simp; omega
                    have g6 : ¬ ((j : Int) < (k : Int)) := by omega
                    have HPK2 : Hid (∃ p, l[k + 1 - 1]? = some p ∧ p.1 = x0) := ⟨(x0, y0), HPK.out, rfl⟩
                    clear e
                    go_wp2_with fail
                    exact ⟨⟨k + 1, x0, HLT.out, by simp, HX0, fun _ => HPK2.out, fun h => by simp at h, HRN, HDN, HBF⟩, by have := HLT.out; simp [intOf]; omega⟩
              · obtain ⟨pp, hpp, hpl⟩ := HLP.out (by omega)
                obtain ⟨xp, yp⟩ := pp
                simp only at hpl
                subst hpl
                obtain ⟨bb', off', he, hbb, c1, c2⟩ := (HP.out.below HBW.out).at hpp
                cases he
                simp only at c1
                obtain ⟨m, hm⟩ : ∃ m, k - 1 = m := ⟨_, rfl⟩
                rw [hm] at c1
                have HD5 : Hid (decide (0 < k) = true) := by show _ = _; simp; omega
                have hkm : (k : Int) - 1 = (m : Int) := by omega
                have hmn : (m : Int) < (n : Int) := by omega
                clear hbb c2 hpp hm hk0
                by_cases q6 : x0 ≤ xp
                · have e6 : decide (x0 ≤ xp) = true := by simpa using q6
                  have HG : Hid (tGood l bl ar = false) := by
                    show _ = _
                    unfold tGood
                    rw [HST.out, show decide (xp < x0) = false by simp; omega]
                    simp
                  go_wp2_with fail
                  refine region_plan (fun x => x = W) 34 (.takes [0, 1, 2, 3, 4, 5, 6, 7, 8, 9, 10, 11, 12, 13, 14, 15, 16, 17, 18, 19, 20, 21, 22, 23, 24, 25, 26, 27, 28, 29, 30, 31, 32, 33] .leaf) hmx (by kernel_rfl) (by intro c x v a w h; cases x <;> exact h) hW ?_
                  rw [hW]
                  clear hW
                  repeat (rw [wpPlan_takes_cons]; simp only [nth_zero, nth_succ]; go_big_quiet_step (fail); try (with_reducible refine wpQuiet_nil ?_); try rw [HD5.out])
                  rw [wpPlan_takes_nil, wpPlan_leaf]
                  simp only [List.drop_succ_cons, List.drop_zero]
                  go_wp2_with fail
                  go_ret
                  exact ⟨by rw [HG.out]; rfl, HBW.out⟩
                · have e6 : decide (x0 ≤ xp) = false := by simpa using q6
                  have HX0 : Hid (-1 ≤ x0) := by show -1 ≤ x0; omega
                  have HRN : Hid (tRise bl ar (-1) l = tRise bl ar x0 (l.drop (k + 1))) := by
                    show _ = _
                    rw [HST.out, show decide (xp < x0) = true by simp; omega, show decide (x0 < bl) = true by simp; omega, show decide (0 ≤ y0) = true by simp; omega, show decide (y0 < ar) = true by simp; omega]
                    rfl
                  go_wp2_with fail
                  refine region_plan (fun x => x = W) 34 (.takes [0, 1, 2, 3, 4, 5, 6, 7, 8, 9, 10, 11, 12, 13, 14, 15, 16, 17, 18, 19, 20, 21, 22, 23, 24, 25, 26, 27, 28, 29, 30, 31, 32, 33] .leaf) hmx (by kernel_rfl) (by intro c x v a w h; cases x <;> exact h) hW ?_
                  rw [hW]
                  clear hW
                  repeat (rw [wpPlan_takes_cons]; simp only [nth_zero, nth_succ]; go_big_quiet_step (fail); try (with_reducible refine wpQuiet_nil ?_); try rw [HD5.out])
                  rw [wpPlan_takes_nil, wpPlan_leaf]
                  simp only [List.drop_succ_cons, List.drop_zero]
                  go_wp2_with fail
                  go_loopw [9] (fun jv wr => ∃ j : Nat, j ≤ k ∧ jv = .int .i64 (j : Int) ∧ Hid (∀ (i : Nat) (p : Int × Int), i < j → l[i]? = some p → p.2 ≠ y0) ∧ Hid (Below W.heap.size W wr)) (fun jv _ => k - (intOf jv).toNat)
                  case atStart => exact ⟨0, Nat.zero_le _, rfl, fun i p h => absurd h (by omega), Below.refl _ _⟩
                  case round =>
                    obtain ⟨j, hj, rfl, HS, HBI⟩ := hrel
                    by_cases hjk : j < k
                    · obtain ⟨q, hq⟩ : ∃ q, l[j]? = some q := ⟨_, List.getElem?_eq_getElem (by rw [HN.out]; have := HLT.out; omega)⟩
                      have hbi : Below w.heap.size w wr := HBW.out.trans (HBI.out.mono HBW.out.size)
                      obtain ⟨bb', off', he, hbb, c1, c2⟩ := (HP.out.below hbi).at hq
                      obtain ⟨x1, y1⟩ := q
                      cases he
                      simp only at c1 c2
                      obtain ⟨V, hV⟩ : ∃ V, wr.drew = V := ⟨_, rfl⟩
                      have c3 : V.cell? ⟨bb, off + j * 2 + 1, none⟩ = some (.int .i64 y1) := by rw [← hV]; exact c2
                      have c4 : V.cell? ⟨B, 1, none⟩ = some (.int .i64 y0) := by rw [← hV]; exact (HRW.out.below HBI.out).cell 1 _ rfl
                      have HBV : Hid (Below W.heap.size W V) := by show Below _ _ _; rw [← hV]; exact HBI.out.drew
                      have g3 : (j : Int) < (k : Int) := by omega
                      have HQ := Lib.hid hq
                      have HJK := Lib.hid hjk
                      have gj : (j : Int) < (n : Int) := by have := HLT.out; omega
                      have HWJ : Hid (wrap64 ((j : Int) + 1) = (j : Int) + 1) := IntWalk.wrap64_in _ (by omega)
                      clear hq hbi hbb c1 c2 hjk
                      go_wp2_with fail
                      refine region_plan (fun x => x = V) 7 (.takes [0, 1, 2, 3, 4, 5, 6] .leaf) hmx (by kernel_rfl) (by intro c x v a w h; cases x <;> exact h) hV ?_
                      rw [hV]
                      clear hV
                      repeat (rw [wpPlan_takes_cons]; simp only [nth_zero, nth_succ]; go_big_quiet_step (fail); refine wpQuiet_nil ?_)
                      rw [wpPlan_takes_nil, wpPlan_leaf]
                      simp only [List.drop_succ_cons, List.drop_zero]
                      by_cases hy : y1 = y0
                      · have qy : (y1 == y0) = true := by simpa using hy
                        have HG : Hid (tGood l bl ar = false) := by
                          show _ = _
                          unfold tGood
                          rw [decide_eq_false (nodup_not HQ.out HPK.out HJK.out hy), Bool.and_false]
                        have HBF : Hid (Below w.heap.size w V) := HBW.out.trans (HBV.out.mono HBW.out.size)
                        clear hy
                        go_wp2_with fail
                        go_ret
                        exact ⟨by rw [HG.out]; rfl, HBF.out⟩
                      · have qy : (y1 == y0) = false := by simpa using hy
                        have HS1 : Hid (∀ (i : Nat) (p : Int × Int), i < j + 1 → l[i]? = some p → p.2 ≠ y0) := fun i p hi hp => by
                          by_cases e : i = j
                          · subst e; rw [HQ.out] at hp; cases hp; exact hy
                          · exact HS.out i p (by omega) hp
                        go_wp2_with fail
                        exact ⟨⟨j + 1, HJK.out, by simp, HS1, HBV⟩, by have := HJK.out; simp [intOf]; omega⟩
                    · have e : k = j := by omega
                      have HDN : Hid (((l.take (k + 1)).map (·.2)).Nodup) := nodup_snoc HPK.out HD.out (by rw [e]; exact HS.out)
                      have HBF : Hid (Below w.heap.size w wr) := HBW.out.trans (HBI.out.mono HBW.out.size)
                      have g5 : decide ((j : Int) < (k : Int)) = false := by simp; omega
                      have g6 : ¬ ((j : Int) < (k : Int)) := by omega
                      have HPK2 : Hid (∃ p, l[k + 1 - 1]? = some p ∧ p.1 = x0) := ⟨(x0, y0), HPK.out, rfl⟩
                      clear e
                      go_wp2_with fail
                      exact ⟨⟨k + 1, x0, HLT.out, by simp, HX0, fun _ => HPK2.out, fun h => by simp at h, HRN, HDN, HBF⟩, by have := HLT.out; simp [intOf]; omega⟩
    · obtain rfl : k = n := by omega
      rw [List.take_of_length_le (by rw [HN.out]; exact Nat.le_refl _)] at HD
      rw [List.drop_of_length_le (by rw [HN.out]; exact Nat.le_refl _)] at HR
      have HG : Hid (tGood l bl ar = true) := by
        show _ = _
        unfold tGood
        rw [HR.out, decide_eq_true HD.out]
        rfl
      go_wp2_with fail
      go_ret
      exact ⟨by rw [HG.out]; rfl, HB.out⟩
end
section
open Go.RowKit Go.Shelf
set_option linter.unusedVariables false
set_option linter.unusedSimpArgs false
attribute [-simp] Try.isAgg39 Try.zeroValue39 Try.isAgg42 Try.zeroValue42
attribute [-go_sem] loadVar storeVar
attribute [local go_sem] loadVar_openPS storeVar_openPS zero_sn zero_prs

/-- What changed so far. -/
def chSt (l : List SN) (i j : Int) (k : Nat) : List Int := chB ((l.take (min k (hiOf l j))).drop (loOf i))
theorem chSt_in {l : List SN} {i j : Int} {k : Nat} {s : SN} (h : l[k]? = some s) (h1 : i ≤ k) (h2 : (k : Int) < j) : chSt l i j (k + 1) = orB (chSt l i j k) s.ch := by
  have hk := (List.getElem?_eq_some_iff.1 h).1
  have hh : k < hiOf l j := by unfold hiOf; split <;> omega
  unfold chSt
  rw [Nat.min_eq_left (by omega), Nat.min_eq_left (by omega), take_at h, List.drop_append_of_le_length (by rw [List.length_take]; unfold loOf; omega), chB_snoc]
theorem chSt_out {l : List SN} {i j : Int} {k : Nat} (hk : k < l.length) (h : ¬ (i ≤ k ∧ (k : Int) < j)) : chSt l i j (k + 1) = chSt l i j k := by
  unfold chSt
  by_cases h1 : i ≤ k
  · have hh : hiOf l j ≤ k := by unfold hiOf; split <;> omega
    rw [Nat.min_eq_right (by omega), Nat.min_eq_right (by omega)]
  · rw [List.drop_of_length_le (by rw [List.length_take]; unfold loOf; omega), List.drop_of_length_le (by rw [List.length_take]; unfold loOf; omega)]
theorem chSt_end (l : List SN) (i j : Int) : chSt l i j l.length = cChg l i j := by
  unfold chSt cChg
  rw [Nat.min_eq_right (hiOf_le l j)]

set_option maxRecDepth 100000 in
set_option maxHeartbeats 4000000 in
theorem rf_changed {w : World} {v : Value} {l : List SN} (h : Snp w v l) (hK : Lens 1000 l) (i j : Int) :
    Calls Try.prog 21 #[v, .int .i64 i, .int .i64 j] w fun e w' => ∃ u, e = .returned u ∧ w'.ownsRow w.heap.size 5 1 u (cChg l i j).length ((cChg l i j).map (Value.int .u8)) ∧ Below w.heap.size w w' := by
  obtain ⟨r, h⟩ := h
  have HS := Lib.hid h
  have HO := Lib.hid h.ok
  have HKL := Lib.hid hK
  obtain ⟨a, cap, rfl, h1, h2, -⟩ := h
  obtain ⟨len, hle⟩ : ∃ len, l.length = len := ⟨_, rfl⟩
  have HL := Lib.hid hle
  have hlen : len ≤ 1000 := by have := hK.1; omega
  rw [hle] at HS h1 ⊢
  clear h1 h2 hle
  go_enter Try.func21, Try.ntmps21
  go_wp2_with fail
  go_loopw [7, 8] (fun uv iv wr => ∃ (k : Nat) (u : SlV), k ≤ len ∧ iv = .int .i64 (k : Int) ∧ uv = slV u ∧ Hid (wr.ownsRow w.heap.size 5 1 (slV u) (chSt l i j k).length ((chSt l i j k).map (Value.int .u8))) ∧ Hid (Below w.heap.size w wr)) (fun _ iv _ => len - (intOf iv).toNat)
  case atStart => exact ⟨0, (none, 0, 0), Nat.zero_le _, rfl, rfl, by show World.ownsRow _ _ _ _ _ _ _; unfold chSt; rw [Nat.min_eq_left (Nat.zero_le _), List.take_zero, List.drop_nil]; exact World.ownsRow_nil _ _ _ _, Below.refl _ _⟩
  case round =>
    obtain ⟨k, u, hk, rfl, rfl, HU, HB⟩ := hrel
    by_cases hlt : k < len
    · obtain ⟨s, hs⟩ : ∃ s, l[k]? = some s := ⟨_, List.getElem?_eq_getElem (by rw [HL.out]; exact hlt)⟩
      have hsm := List.mem_of_getElem? hs
      obtain ⟨b, off, q, rfl, hb, -, hq, c0, c1, c2⟩ := (HS.out.below HB.out).at hs
      obtain ⟨qi, ⟨x, n, c⟩, qt⟩ := q
      simp only [slV] at c1
      have hcs := hq.ch
      simp only [slV] at hcs
      have g1 : (k : Int) < (len : Int) := by omega
      have HW : Hid (wrap64 ((k : Int) + 1) = (k : Int) + 1) := IntWalk.wrap64_in _ (by omega)
      have HLT := Lib.hid hlt
      by_cases hin : i ≤ (k : Int) ∧ (k : Int) < j
      · have g2 : (k : Int) ≥ i := hin.1
        have g3 : decide ((k : Int) ≥ i) = true := by simpa using hin.1
        have g4 : (k : Int) < j := hin.2
        have g5 : decide ((k : Int) < j) = true := by simpa using hin.2
        have HST := Lib.hid (chSt_in (i := i) (j := j) hs hin.1 hin.2)
        have HOR := Lib.hid (rf_orO (slV u) (.slice x n c) _ _ wr (Sl.of_owns HU.out) hcs (chg_ok HO.out _ _) (HO.out s hsm).ch (by have := chg_len HKL.out (min k (hiOf l j)) (loOf i); unfold chSt; omega) (by have := (HKL.out.2 s hsm).1; omega))
        clear hs hsm hb hq c0 c2 hcs hlt HU hin
        go_wp2_with fail
        go_at_call 46
        refine HOR.out.mono ?_
        rintro e y ⟨v', rfl, ho, hbb⟩
        obtain ⟨⟨ux, un, uc⟩, rfl, -⟩ := own_slV ho
        have HO2 : Hid (y.ownsRow w.heap.size 5 1 (slV (ux, un, uc)) (chSt l i j (k + 1)).length ((chSt l i j (k + 1)).map (Value.int .u8))) := by
          show World.ownsRow _ _ _ _ _ _ _
          rw [HST.out]
          exact own_weak ho HB.out.size
        have HB2 : Hid (Below w.heap.size w y) := HB.out.trans (hbb.mono HB.out.size)
        simp only [slV]
        clear ho hbb HOR
        go_wp2_with fail
        exact ⟨⟨k + 1, (ux, un, uc), HLT.out, by first | simp | (rw [HW.out]; simp), rfl, HO2, HB2⟩, by have := HLT.out; first | (simp [intOf]; omega) | (rw [HW.out]; simp [intOf]; omega)⟩
      · have HO2 : Hid (wr.ownsRow w.heap.size 5 1 (slV u) (chSt l i j (k + 1)).length ((chSt l i j (k + 1)).map (Value.int .u8))) := by
          show World.ownsRow _ _ _ _ _ _ _
          rw [chSt_out (by rw [HL.out]; exact hlt) hin]
          exact HU.out
        by_cases hin1 : i ≤ (k : Int)
        · have g2 : (k : Int) ≥ i := hin1
          have g3 : decide ((k : Int) ≥ i) = true := by simpa using hin1
          have g4 : ¬ (k : Int) < j := fun h => hin ⟨hin1, h⟩
          have g5 : decide ((k : Int) < j) = false := by simpa using g4
          clear hs hsm hb hq c0 c1 c2 hcs hlt HU hin
          go_wp2_with fail
          exact ⟨⟨k + 1, u, HLT.out, by first | simp | (rw [HW.out]; simp), rfl, HO2, HB⟩, by have := HLT.out; first | (simp [intOf]; omega) | (rw [HW.out]; simp [intOf]; omega)⟩
        · have g2 : ¬ (k : Int) ≥ i := hin1
          have g3 : decide ((k : Int) ≥ i) = false := by simpa using hin1
          clear hs hsm hb hq c0 c1 c2 hcs hlt HU hin
          go_wp2_with fail
          exact ⟨⟨k + 1, u, HLT.out, by first | simp | (rw [HW.out]; simp), rfl, HO2, HB⟩, by have := HLT.out; first | (simp [intOf]; omega) | (rw [HW.out]; simp [intOf]; omega)⟩
    · obtain rfl : k = len := by omega
      have hu := HU.out
      rw [show chSt l i j k = cChg l i j from by rw [← HL.out]; exact chSt_end l i j] at hu
      have HU2 := Lib.hid hu
      clear HU hu
      go_wp2_with fail
      refine bodyPost_ret (results_tmp rfl _ _ _) rfl ?_
      exact ⟨_, rfl, HU2.out, HB.out⟩
end
section
open Go.RowKit Go.Shelf
set_option linter.unusedVariables false
set_option linter.unusedSimpArgs false
attribute [-simp] Try.isAgg39 Try.zeroValue39 Try.isAgg42 Try.zeroValue42
attribute [-go_sem] loadVar storeVar
attribute [local go_sem] loadVar_openPS storeVar_openPS zero_sn zero_prs

theorem rS_false {bl ar last : Int} {s : SN} (h : ¬ (0 < s.id ∧ s.id ≤ 1000000 ∧ last < s.id ∧ goodB s.ch bl = true ∧ tGood s.tb bl ar = true)) : rS bl ar last s = false := by
  rw [Bool.eq_false_iff]
  intro e
  unfold rS at e
  simp only [Bool.and_eq_true, decide_eq_true_eq] at e
  exact h e
theorem rS_true {bl ar last : Int} {s : SN} (h : 0 < s.id ∧ s.id ≤ 1000000 ∧ last < s.id ∧ goodB s.ch bl = true ∧ tGood s.tb bl ar = true) : rS bl ar last s = true := by
  unfold rS
  simp only [Bool.and_eq_true, decide_eq_true_eq]
  exact h
theorem rT_of {ats : List Int} {s : SN} (h : ∀ (i : Nat) (p : Int × Int), s.tb[i]? = some p → hasB s.ch p.1 = true ∧ p.2 ∉ ats) : rT ats s = true := by
  unfold rT
  rw [List.all_eq_true]
  intro p hp
  obtain ⟨i, hi⟩ := List.getElem?_of_mem hp
  have := h i p hi
  rw [this.1, Bool.true_and, Bool.not_eq_true']
  simpa using this.2
theorem rT_no {ats : List Int} {s : SN} {j : Nat} {p : Int × Int} (hp : s.tb[j]? = some p) (h : hasB s.ch p.1 = false ∨ p.2 ∈ ats) : rT ats s = false := by
  rw [Bool.eq_false_iff]
  intro e
  unfold rT at e
  rw [List.all_eq_true] at e
  have := e p (List.mem_of_getElem? hp)
  rcases h with h | h
  · rw [h] at this; cases this
  · simp [h] at this
theorem rF_of {s : SN} (h : ∀ (i : Nat) (c : Int), ((allB s.ch).map fun k : Nat => (k : Int))[i]? = some c → (tFind s.tb c).isSome = true) : rF s = true := by
  unfold rF
  rw [List.all_eq_true]
  intro c hc
  obtain ⟨i, hi⟩ := List.getElem?_of_mem hc
  exact h i c (by rw [List.getElem?_map, hi]; rfl)
theorem rF_no {s : SN} {i : Nat} {c : Int} (hc : ((allB s.ch).map fun k : Nat => (k : Int))[i]? = some c) (h : tFind s.tb c = none) : rF s = false := by
  rw [Bool.eq_false_iff]
  intro e
  unfold rF at e
  rw [List.all_eq_true] at e
  rw [List.getElem?_map] at hc
  obtain ⟨n, hn, rfl⟩ := Option.map_eq_some_iff.1 hc
  have := e n (List.mem_of_getElem? hn)
  simp only [h] at this
  cases this
theorem InO.at {N : Nat} {W : World} {a : Option Addr} {n c i : Nat} {zs : List Int} {y : Int} (h : InO N W (.slice a n c) zs) (hi : zs[i]? = some y) : ∃ g, a = some ⟨g, 0, none⟩ ∧ g < W.heap.size ∧ W.cell? ⟨g, i, none⟩ = some (.int .i64 y) := by
  have h' := h
  rcases h.2 with ⟨e, h0⟩ | ⟨g, cap, cur, e, h1, h2, -⟩
  · have : zs = [] := List.eq_nil_of_length_eq_zero h0
    subst this
    simp at hi
  · cases e
    have hl := (List.getElem?_eq_some_iff.1 hi).1
    refine ⟨g, rfl, (Array.getElem?_eq_some_iff.1 h2).1, ?_⟩
    rw [h'.cellAt i (by simpa using hl), List.getElem?_map, hi]
    rfl
theorem InO.len {N : Nat} {W : World} {a : Option Addr} {n c : Nat} {zs : List Int} (h : InO N W (.slice a n c) zs) : n = zs.length := by
  obtain ⟨q', e, e2⟩ := own_slV h
  simp only [slV, Value.slice.injEq] at e
  rw [e.2.1]; exact e2
theorem InO.isSl {N : Nat} {W : World} {v : Value} {zs : List Int} (h : InO N W v zs) : ∃ q : SlV, v = slV q := by
  obtain ⟨q', e, e2⟩ := own_slV h
  exact ⟨q', e⟩
theorem RowC.grownS {N B : Nat} {x y : World} {v : Value} {zs : List Int} {C : List Value} (h : RowC x B 39 C) (hv : InO N x v zs) (hg : x.grownBy y v.ownBlock) : RowC y B 39 C := h.grown hg (row_ne hv h (by decide))
set_option maxRecDepth 100000 in
theorem gd_app {N : Nat} {w : World} {v : Value} {zs : List Int} (h : InO N w v zs) (hN : N ≤ w.heap.size) (x : Int) (hlen : zs.length ≤ 900000) :
    ∃ (W3 : World) (ux : Option Addr) (un uc : Nat) (w' : World), (Instr.buildSlice 35 1 #[(0, .int .i64 x)]).run Try.prog w = .ok (.slice (some ⟨w.heap.size, 0, none⟩) 1 1) W3 ∧ (∀ ty, (Builtin.append_ #[35, 35] ty #[v, .slice (some ⟨w.heap.size, 0, none⟩) 1 1]).run Try.prog W3 = .ok (.slice ux un uc) w') ∧ InO N w' (.slice ux un uc) (zs ++ [x]) ∧ w.grownBy w' v.ownBlock := by
  obtain ⟨v2, W4, hr, h1, h2, -⟩ := in_append h hN x hlen
  obtain ⟨⟨ux, un, uc⟩, rfl⟩ := h1.isSl
  exact ⟨_, ux, un, uc, W4, slice_int1 w x, hr, h1, h2⟩

set_option maxRecDepth 100000 in
set_option maxHeartbeats 16000000 in
theorem rf11_good {w : World} {v : Value} {l : List SN} (h : Snp w v l) (hK : Lens 1000 l) (bl ar : Int) (hbl : (Lit.int .i64 bl).wf = true) :
    Calls Try.prog 10 #[v, .int .i64 bl, .int .i64 ar] w fun e w' => e = .returned (.bool (cGood l bl ar)) ∧ Below w.heap.size w w' := by
  have hmx : Try.prog.follows .mixedOrders = true := by kernel_rfl
  obtain ⟨r, h⟩ := h
  have HS := Lib.hid h
  have HKL := Lib.hid hK
  have HBL := Lib.hid hbl
  obtain ⟨a, cap, rfl, h1, h2, -⟩ := h
  obtain ⟨len, hle⟩ : ∃ len, l.length = len := ⟨_, rfl⟩
  have HL := Lib.hid hle
  rw [hle] at HS h1 ⊢
  by_cases h8 : 8 < len
  · have q0 : (len : Int) > 8 := by omega
    have q1 : decide ((len : Int) > 8) = true := by simpa using q0
    have HG : Hid (cGood l bl ar = false) := by show _ = _; unfold cGood; rw [hle, decide_eq_false (by omega)]; rfl
    clear h1 h2 hle h8 hbl
    go_enter Try.func10, Try.ntmps10
    go_wp2_with fail
    go_ret
    exact ⟨by rw [HG.out]; rfl, Below.refl _ _⟩
  · have hlen : len ≤ 8 := by omega
    have q0 : ¬ (len : Int) > 8 := by omega
    have q1 : decide ((len : Int) > 8) = false := by simpa using q0
    obtain ⟨gd, hgd⟩ : ∃ gd, cGood l bl ar = gd := ⟨_, rfl⟩
    have HR0 : Hid (rGo bl ar (cAts (l.take 0)) 0 (l.drop 0) = gd) := by show _ = _; rw [← hgd, rGood_is l bl ar (by omega)]; rfl
    rw [hgd]
    clear h1 h2 hle h8 hgd hbl
    go_enter Try.func10, Try.ntmps10
    go_wp2_with fail
    go_loopw [7, 8] (fun uv iv W => ∃ (k : Nat) (u : SlV) (last : Int), k ≤ len ∧ iv = .int .i64 (k : Int) ∧ uv = slV u ∧ Hid (InO w.heap.size W (slV u) (cAts (l.take k))) ∧ Hid (k = 0 → last = 0) ∧ Hid (0 < k → ∃ p, l[k - 1]? = some p ∧ p.id = last) ∧ Hid (0 ≤ last) ∧ Hid (rGo bl ar (cAts (l.take k)) last (l.drop k) = gd) ∧ Hid (Below w.heap.size w W)) (fun _ iv _ => len - (intOf iv).toNat)
    case atStart => exact ⟨0, (none, 0, 0), 0, Nat.zero_le _, rfl, rfl, InO.nil _ _, fun _ => rfl, fun h => absurd h (by omega), Int.le_refl _, HR0, Below.refl _ _⟩
    case round =>
      obtain ⟨W, hWwr⟩ : ∃ W, W = wr := ⟨_, rfl⟩
      subst hWwr
      obtain ⟨k, u, last, hk, rfl, rfl, HU, HL0, HLP, HLN, HR, HB⟩ := hrel
      by_cases hlt : k < len
      · obtain ⟨s, hs⟩ : ∃ s, l[k]? = some s := ⟨_, List.getElem?_eq_getElem (by rw [HL.out]; exact hlt)⟩
        have hls := HKL.out.2 s (List.mem_of_getElem? hs)
        have hst := rGo_at hs bl ar last (cAts (l.take k))
        rw [HR.out] at hst
        have HAN : Hid (cAts (l.take (k + 1)) = cAts (l.take k) ++ s.tb.map (·.2)) := by show _ = _; rw [take_at hs, cAts_snoc]
        have HAL : Hid ((cAts (l.take k)).length ≤ 8000) := by
          have h1 := cAts_len (K := 1000) (l.take k) (fun t ht => (HKL.out.2 t (List.mem_of_mem_take ht)).2)
          rw [List.length_take] at h1
          show _ ≤ _
          omega
        obtain ⟨A, hA⟩ : ∃ A, cAts (l.take k) = A := ⟨_, rfl⟩
        rw [hA] at hst HAN HAL HU
        have HST := Lib.hid hst
        obtain ⟨b, off, q, rfl, hb, -, hq, e0, e1, e2⟩ := HS.out.at hs
        have hz := HB.out.size
        have LD := load_sn ((HB.out.cell (p := ⟨b, off + k * 3, none⟩) hb).trans e0) ((HB.out.cell (p := ⟨b, off + k * 3 + 1, none⟩) hb).trans e1) ((HB.out.cell (p := ⟨b, off + k * 3 + 2, none⟩) hb).trans e2)
        have ST := new_sn W q
        obtain ⟨Y, hY⟩ : ∃ Y, W.alloc (.cells (svL q).toArray 39) = Y := ⟨_, rfl⟩
        have bY : Below W.heap.size W Y := by rw [← hY]; exact below_new _ _
        have rY : RowC Y W.heap.size 39 (svL q) := by rw [← hY]; exact RowC.new W _ _
        rw [hY] at ST
        obtain ⟨C, hC⟩ : ∃ C, W.heap.size = C := ⟨_, rfl⟩
        rw [hC] at ST rY
        have HBY : Hid (Below w.heap.size w Y) := HB.out.trans (bY.mono hz)
        have HUY := Lib.hid (HU.out.below bY)
        obtain ⟨id, ⟨x, n, c⟩, ⟨y, m, d⟩⟩ := q
        obtain rfl : id = s.id := hq.id
        have RY : Hid (RowC Y C 39 [.int .i64 s.id, .slice x n c, .slice y m d]) := rY
        have HM : Hid (m = s.tb.length) := by obtain ⟨a', ca', e, -⟩ := hq.tb; simp only [slV, Value.slice.injEq] at e; show _ = _; omega
        have hm1 : m ≤ 1000 := by have := HM.out; omega
        have HTB : Hid (∀ z : World, Below w.heap.size w z → Prt z (.slice y m d) s.tb) := fun z hz => hq.tb.below hz
        have HCH : Hid (∀ z : World, Below w.heap.size w z → Sl .u8 z (.slice x n c) s.ch) := fun z hz => hq.ch.below hz
        have HOK := Lib.hid hq.ok
        have HCL : Hid (s.ch.length ≤ 1000 ∧ s.tb.length ≤ 1000) := hls
        have c0 : ∀ z : Ext Y, z.1.cell? ⟨C, 0, none⟩ = some (.int .i64 s.id) := fun z => (rY.below z.2).cell 0 _ rfl
        have c1 : ∀ z : Ext Y, z.1.cell? ⟨C, 1, none⟩ = some (.slice x n c) := fun z => (rY.below z.2).cell 1 _ rfl
        have c2 : ∀ z : Ext Y, z.1.cell? ⟨C, 2, none⟩ = some (.slice y m d) := fun z => (rY.below z.2).cell 2 _ rfl
        have HCG : Hid (∀ z : Ext Y, Calls Try.prog 29 #[.slice x n c, .int .i64 bl] z.1 fun e w'' => e = .returned (.bool (goodB s.ch bl)) ∧ ∃ y : Ext Y, w'' = y.1) := fun z => calls_ext z (rf9_good _ s.ch bl HBL.out z.1 (HCH.out _ (HBY.out.trans (z.2.mono HBY.out.size))) HOK.out.ch (by omega))
        have HTG : Hid (∀ z : Ext Y, Calls Try.prog 30 #[.slice y m d, .int .i64 bl, .int .i64 ar] z.1 fun e w'' => e = .returned (.bool (tGood s.tb bl ar)) ∧ ∃ y : Ext Y, w'' = y.1) := fun z => calls_ext z (rf_good (HTB.out _ (HBY.out.trans (z.2.mono HBY.out.size))) bl ar (by omega))
        have g1 : (k : Int) < (len : Int) := by omega
        have HW : Hid (wrap64 ((k : Int) + 1) = (k : Int) + 1) := IntWalk.wrap64_in _ (by omega)
        have HW2 : Hid (wrap64 ((k : Int) - 1) = (k : Int) - 1) := IntWalk.wrap64_in _ (by omega)
        have HLT := Lib.hid hlt
        have HK8 : Hid (k < 8) := by show k < 8; omega
        have HSK := Lib.hid hs
        have hlast := HLN.out
        obtain ⟨ux, un, uc⟩ := u
        have HUN : Hid (un = A.length) := InO.len (c := uc) (a := ux) HU.out
        simp only [slV] at HUY ⊢
        by_cases q1 : s.id < 1
        · have f1 : decide (s.id < 1) = true := by simpa using q1
          have HG : Hid (gd = false) := by show _ = _; rw [HST.out, rS_false (fun h => by omega), Bool.false_and]
          clear hls hst hA hb hq e0 e1 e2 hz bY rY HU hlt hs
          go_wp2_with fail
          clear LD ST
          try rw [hY]
          clear hY
          refine region_ext (by kernel_rfl) (by kernel_rfl) ?_
          repeat (go_big_quiet_step (with_reducible (first | exact HCG.out _ | exact HTG.out _)); try rw [HD5.out])
          try (with_reducible refine wpQuiet_nil ?_)
          intro z0
          have HBZ : Hid (Below w.heap.size w z0.1) := HBY.out.trans (z0.2.mono HBY.out.size)
          clear c0 c1 c2 HCG HTG
          go_wp2_with fail
          go_ret
          exact ⟨by rw [HG.out]; rfl, HBZ.out⟩
        · have f1 : decide (s.id < 1) = false := by simpa using q1
          by_cases q2 : s.id > 1000000
          · have f2 : decide (s.id > 1000000) = true := by simpa using q2
            have HG : Hid (gd = false) := by show _ = _; rw [HST.out, rS_false (fun h => by omega), Bool.false_and]
            clear hls hst hA hb hq e0 e1 e2 hz bY rY HU hlt hs
            go_wp2_with fail
            clear LD ST
            try rw [hY]
            clear hY
            refine region_ext (by kernel_rfl) (by kernel_rfl) ?_
            repeat (go_big_quiet_step (with_reducible (first | exact HCG.out _ | exact HTG.out _)); try rw [HD5.out])
            try (with_reducible refine wpQuiet_nil ?_)
            intro z0
            have HBZ : Hid (Below w.heap.size w z0.1) := HBY.out.trans (z0.2.mono HBY.out.size)
            clear c0 c1 c2 HCG HTG
            go_wp2_with fail
            go_ret
            exact ⟨by rw [HG.out]; rfl, HBZ.out⟩
          · have f2 : decide (s.id > 1000000) = false := by simpa using q2
            by_cases hk0 : k = 0
            · obtain rfl := HL0.out hk0
              have HD5 : Hid (decide (0 < k) = false) := by show _ = _; simp; omega
              have f3 : ¬ ((k : Int) > 0) := by omega
              have f3' : decide ((k : Int) > 0) = false := by simpa using f3
              clear hk0
              cases hb5 : goodB s.ch bl with
              | false =>
                rw [hb5] at HCG
                have HG : Hid (gd = false) := by show _ = _; rw [HST.out, rS_false (fun h => by rw [hb5] at h; exact absurd h.2.2.2.1 (by decide)), Bool.false_and]
                clear hls hst hA hb hq e0 e1 e2 hz bY rY HU hlt hs
                clear hb5
                go_wp2_with fail
                clear LD ST
                try rw [hY]
                clear hY
                refine region_ext (by kernel_rfl) (by kernel_rfl) ?_
                repeat (go_big_quiet_step (with_reducible (first | exact HCG.out _ | exact HTG.out _)); try rw [HD5.out])
                try (with_reducible refine wpQuiet_nil ?_)
                intro z0
                have HBZ : Hid (Below w.heap.size w z0.1) := HBY.out.trans (z0.2.mono HBY.out.size)
                clear c0 c1 c2 HCG HTG
                go_wp2_with fail
                go_ret
                exact ⟨by rw [HG.out]; rfl, HBZ.out⟩
              | true =>
                rw [hb5] at HCG
                cases hb6 : tGood s.tb bl ar with
                | false =>
                  rw [hb6] at HTG
                  have HG : Hid (gd = false) := by show _ = _; rw [HST.out, rS_false (fun h => by rw [hb6] at h; exact absurd h.2.2.2.2 (by decide)), Bool.false_and]
                  clear hls hst hA hb hq e0 e1 e2 hz bY rY HU hlt hs
                  clear hb5 hb6
                  go_wp2_with fail
                  clear LD ST
                  try rw [hY]
                  clear hY
                  refine region_ext (by kernel_rfl) (by kernel_rfl) ?_
                  repeat (go_big_quiet_step (with_reducible (first | exact HCG.out _ | exact HTG.out _)); try rw [HD5.out])
                  try (with_reducible refine wpQuiet_nil ?_)
                  intro z0
                  have HBZ : Hid (Below w.heap.size w z0.1) := HBY.out.trans (z0.2.mono HBY.out.size)
                  clear c0 c1 c2 HCG HTG
                  go_wp2_with fail
                  go_ret
                  exact ⟨by rw [HG.out]; rfl, HBZ.out⟩
                | true =>
                  rw [hb6] at HTG
                  have HRS : Hid (gd = (rT A s && ((decide (l.length ≤ k + 1) || rF s) && rGo bl ar (A ++ s.tb.map (·.2)) s.id (l.drop (k + 1))))) := by show _ = _; rw [HST.out, rS_true ⟨by omega, by omega, by omega, hb5, hb6⟩, Bool.true_and]
                  have HID0 : Hid (0 ≤ s.id) := by show 0 ≤ s.id; omega
                  clear hls hst hA hb hq e0 e1 e2 hz bY rY HU hlt hs HST hb5 hb6
                  go_wp2_with fail
                  clear LD ST
                  try rw [hY]
                  clear hY
                  refine region_ext (by kernel_rfl) (by kernel_rfl) ?_
                  repeat (go_big_quiet_step (with_reducible (first | exact HCG.out _ | exact HTG.out _)); try rw [HD5.out])
                  try (with_reducible refine wpQuiet_nil ?_)
                  intro z0
                  have HBZ : Hid (Below w.heap.size w z0.1) := HBY.out.trans (z0.2.mono HBY.out.size)
                  clear c0 c1 c2 HCG HTG

                  obtain ⟨Z, hZ⟩ : ∃ Z, z0.1 = Z := ⟨_, rfl⟩
                  have RZ := Lib.hid (RY.out.below z0.2)
                  have UZ := Lib.hid (HUY.out.below z0.2)
                  rw [hZ] at HBZ RZ UZ
                  try rw [hZ]
                  clear hZ z0 RY HUY HBY HB HD5 HLP HL0 HLN HW2 hlast HR
                  go_wp2_with fail
                  go_loopw [10] (fun jv V => ∃ j : Nat, j ≤ m ∧ jv = .int .i64 (j : Int) ∧ Hid (∀ (i : Nat) (p : Int × Int), i < j → s.tb[i]? = some p → hasB s.ch p.1 = true ∧ p.2 ∉ A) ∧ Hid (Below Z.heap.size Z V)) (fun jv _ => m - (intOf jv).toNat)
                  case atStart => exact ⟨0, Nat.zero_le _, rfl, fun i p h => absurd h (by omega), Below.refl _ _⟩
                  case round =>
                    obtain ⟨V, hVwr⟩ : ∃ V, V = wr := ⟨_, rfl⟩
                    subst hVwr
                    obtain ⟨j, hj, rfl, HAJ, HV⟩ := hrel
                    have HBV : Hid (Below w.heap.size w V) := HBZ.out.trans (HV.out.mono HBZ.out.size)
                    have RV := Lib.hid (RZ.out.below HV.out)
                    have UV := Lib.hid (UZ.out.below HV.out)
                    have c2 := RV.out.cell 2 _ rfl
                    by_cases hjm : j < m
                    · obtain ⟨p, hp⟩ : ∃ p, s.tb[j]? = some p := ⟨_, List.getElem?_eq_getElem (by rw [← HM.out]; exact hjm)⟩
                      obtain ⟨bb, boff, rfl, hbb, t0, t1⟩ := (HTB.out _ HBV.out).at hp
                      have g2 : (j : Int) < (m : Int) := by omega
                      have HWJ : Hid (wrap64 ((j : Int) + 1) = (j : Int) + 1) := IntWalk.wrap64_in _ (by omega)
                      have hp64 := HOK.out.tb p (List.mem_of_getElem? hp)
                      obtain ⟨pb, pa⟩ := p
                      simp only at t0 t1 hp64
                      have d1 : ∀ z : Ext V, z.1.cell? ⟨C, 1, none⟩ = some (.slice x n c) := fun z => (RV.out.below z.2).cell 1 _ rfl
                      have d2 : ∀ z : Ext V, z.1.cell? ⟨C, 2, none⟩ = some (.slice (some ⟨bb, boff, none⟩) m d) := fun z => (RV.out.below z.2).cell 2 _ rfl
                      have d3 : ∀ z : Ext V, z.1.cell? ⟨bb, boff + j * 2, none⟩ = some (.int .i64 pb) := fun z => (z.2.cell (p := ⟨bb, boff + j * 2, none⟩) hbb).trans t0
                      have HHA : Hid (∀ z : Ext V, Calls Try.prog 31 #[.slice x n c, .int .i64 pb] z.1 fun e w'' => e = .returned (.bool (hasB s.ch pb)) ∧ ∃ y : Ext V, w'' = y.1) := fun z => (rf_has _ s.ch pb (wf_i64 hp64.1.1 hp64.1.2) z.1 (HCH.out _ (HBV.out.trans (z.2.mono HBV.out.size))) HOK.out.ch).mono fun e w'' ⟨h1, h2⟩ => ⟨h1, z, h2⟩
                      have HJM := Lib.hid hjm
                      have HP := Lib.hid hp
                      have HBB : Hid (bb < V.heap.size ∧ V.cell? ⟨bb, boff + j * 2 + 1, none⟩ = some (.int .i64 pa)) := ⟨hbb, t1⟩
                      cases hh : hasB s.ch pb with
                      | false =>
                        rw [hh] at HHA
                        have HG : Hid (gd = false) := by show _ = _; rw [HRS.out, rT_no HP.out (.inl hh), Bool.false_and]
                        clear hjm hp hbb t0 t1 hp64 hh
                        go_wp2_with fail
                        refine region_ext (by kernel_rfl) (by kernel_rfl) ?_
                        repeat (go_big_quiet_step (with_reducible (first | exact HHA.out _)))
                        try (with_reducible refine wpQuiet_nil ?_)
                        intro z1
                        have HBZ : Hid (Below w.heap.size w z1.1) := HBV.out.trans (z1.2.mono HBV.out.size)
                        clear d1 d2 d3 HHA c2
                        go_wp2_with fail
                        go_ret
                        exact ⟨by rw [HG.out]; rfl, HBZ.out⟩
                      | true =>
                        rw [hh] at HHA
                        have HHH := Lib.hid hh
                        clear hjm hp hbb t0 t1 hp64 hh
                        go_wp2_with fail
                        refine region_ext (by kernel_rfl) (by kernel_rfl) ?_
                        repeat (go_big_quiet_step (with_reducible (first | exact HHA.out _)))
                        try (with_reducible refine wpQuiet_nil ?_)
                        intro z1
                        obtain ⟨V2, hV2⟩ : ∃ V2, z1.1 = V2 := ⟨_, rfl⟩
                        have bV : Below V.heap.size V V2 := by rw [← hV2]; exact z1.2
                        have RV2 := Lib.hid (RV.out.below bV)
                        have UV2 := Lib.hid (UV.out.below bV)
                        have HBV2 : Hid (Below w.heap.size w V2) := HBV.out.trans (bV.mono HBV.out.size)
                        have HV2 : Hid (Below Z.heap.size Z V2) := HV.out.trans (bV.mono HV.out.size)
                        have HPA : Hid (bb < V2.heap.size ∧ V2.cell? ⟨bb, boff + j * 2 + 1, none⟩ = some (.int .i64 pa)) := ⟨Nat.lt_of_lt_of_le HBB.out.1 bV.size, (bV.cell (p := ⟨bb, boff + j * 2 + 1, none⟩) HBB.out.1).trans HBB.out.2⟩
                        try rw [hV2]
                        clear d1 d2 d3 HHA c2 hV2 z1 bV RV UV HBV HV HBB
                        go_wp2_with fail
                        go_loopw [11] (fun iv X => ∃ i : Nat, i ≤ un ∧ iv = .int .i64 (i : Int) ∧ Hid (∀ (i' : Nat) (y : Int), i' < i → A[i']? = some y → y ≠ pa) ∧ Hid (Below V2.heap.size V2 X)) (fun iv _ => un - (intOf iv).toNat)
                        case atStart => exact ⟨0, Nat.zero_le _, rfl, fun i p h => absurd h (by omega), Below.refl _ _⟩
                        case round =>
                          obtain ⟨X, hXwr⟩ : ∃ X, X = wr := ⟨_, rfl⟩
                          subst hXwr
                          obtain ⟨i, hi, rfl, HI, HX⟩ := hrel
                          by_cases hin : i < un
                          · obtain ⟨y0, hy0⟩ : ∃ y0, A[i]? = some y0 := ⟨_, List.getElem?_eq_getElem (by rw [← HUN.out]; exact hin)⟩
                            obtain ⟨g, rfl, hgs, u0⟩ := (UV2.out.below HX.out).at hy0
                            have d2 : ∀ z : Ext X, z.1.cell? ⟨C, 2, none⟩ = some (.slice (some ⟨bb, boff, none⟩) m d) := fun z => ((RV2.out.below HX.out).below z.2).cell 2 _ rfl
                            have d4 : ∀ z : Ext X, z.1.cell? ⟨bb, boff + j * 2 + 1, none⟩ = some (.int .i64 pa) := fun z => (z.2.cell (p := ⟨bb, boff + j * 2 + 1, none⟩) (Nat.lt_of_lt_of_le HPA.out.1 HX.out.size)).trans ((HX.out.cell (p := ⟨bb, boff + j * 2 + 1, none⟩) HPA.out.1).trans HPA.out.2)
                            have d5 : ∀ z : Ext X, z.1.cell? ⟨g, i, none⟩ = some (.int .i64 y0) := fun z => (z.2.cell (p := ⟨g, i, none⟩) hgs).trans u0
                            have g3 : (i : Int) < (un : Int) := by omega
                            have HWI : Hid (wrap64 ((i : Int) + 1) = (i : Int) + 1) := IntWalk.wrap64_in _ (by have := HUN.out; have := HAL.out; omega)
                            have HIN := Lib.hid hin
                            have HY0 := Lib.hid hy0
                            have g4 : (j : Int) < (m : Int) := g2
                            clear hy0 hgs u0 hin
                            by_cases hyp : y0 = pa
                            · have qy : (y0 == pa) = true := by simpa using hyp
                              have HG : Hid (gd = false) := by show _ = _; rw [HRS.out, rT_no HP.out (.inr (by show pa ∈ A; rw [← hyp]; exact List.mem_of_getElem? HY0.out)), Bool.false_and]
                              clear hyp
                              go_wp2_with fail
                              refine region_ext (by kernel_rfl) (by kernel_rfl) ?_
                              repeat (go_big_quiet_step (fail))
                              try (with_reducible refine wpQuiet_nil ?_)
                              intro z1
                              have HBZ : Hid (Below w.heap.size w z1.1) := HBV2.out.trans ((HX.out.trans (z1.2.mono HX.out.size)).mono HBV2.out.size)
                              clear d2 d4 d5
                              go_wp2_with fail
                              go_ret
                              exact ⟨by rw [HG.out]; rfl, HBZ.out⟩
                            · have qy : (y0 == pa) = false := by simpa using hyp
                              have HI1 : Hid (∀ (i' : Nat) (y : Int), i' < i + 1 → A[i']? = some y → y ≠ pa) := fun i' y hi' hy' => by
                                by_cases e : i' = i
                                · subst e; rw [HY0.out] at hy'; cases hy'; exact hyp
                                · exact HI.out i' y (by omega) hy'
                              go_wp2_with fail
                              refine region_ext (by kernel_rfl) (by kernel_rfl) ?_
                              repeat (go_big_quiet_step (fail))
                              try (with_reducible refine wpQuiet_nil ?_)
                              intro z1
                              have HX1 : Hid (Below V2.heap.size V2 z1.1) := HX.out.trans (z1.2.mono HX.out.size)
                              clear d2 d4 d5
                              go_wp2_with fail
                              exact ⟨⟨i + 1, HIN.out, by first | (simp; done) | (simp; exact HWI.out) | (rw [HWI.out]; simp), HI1, HX1⟩, by have := HIN.out; first | (simp [intOf]; omega) | (rw [HWI.out]; simp [intOf]; omega) | (simp [intOf, HWI.out]; omega)⟩
                          · have hie : un ≤ i := by omega
                            have HNA : Hid (∀ (i' : Nat) (p : Int × Int), i' < j + 1 → s.tb[i']? = some p → hasB s.ch p.1 = true ∧ p.2 ∉ A) := fun i' p hi' hp' => by
                              by_cases e : i' = j
                              · subst e
                                rw [HP.out] at hp'
                                cases hp'
                                refine ⟨HHH.out, fun hm => ?_⟩
                                obtain ⟨t, ht⟩ := List.getElem?_of_mem hm
                                exact HI.out t _ (by have := (List.getElem?_eq_some_iff.1 ht).1; have := HUN.out; omega) ht rfl
                              · exact HAJ.out i' p (by omega) hp'
                            have g3 : ¬ ((i : Int) < (un : Int)) := by omega
                            have g3' : decide ((i : Int) < (un : Int)) = false := by simpa using g3
                            have HVX : Hid (Below Z.heap.size Z X) := HV2.out.trans (HX.out.mono HV2.out.size)
                            clear hie
                            go_wp2_with fail
                            exact ⟨⟨j + 1, HJM.out, by first | (simp; done) | (simp; exact HWJ.out) | (rw [HWJ.out]; simp), HNA, HVX⟩, by have := HJM.out; first | (simp [intOf]; omega) | (rw [HWJ.out]; simp [intOf]; omega) | (simp [intOf, HWJ.out]; omega)⟩
                    · obtain rfl : j = m := by omega
                      have HRT : Hid (gd = ((decide (l.length ≤ k + 1) || rF s) && rGo bl ar (cAts (l.take (k + 1))) s.id (l.drop (k + 1)))) := by
                        show _ = _
                        rw [HRS.out, HAN.out, rT_of (fun i p hp => HAJ.out i p (by have := (List.getElem?_eq_some_iff.1 hp).1; have := HM.out; omega) hp), Bool.true_and]
                      clear HRS HV HAJ RZ UZ HBZ hjm hj
                      go_wp2_with fail
                      clear c2
                      go_loopw [7, 12] (fun uv jv X => ∃ (i : Nat) (u' : SlV), i ≤ j ∧ jv = .int .i64 (i : Int) ∧ uv = slV u' ∧ Hid (InO w.heap.size X (slV u') (A ++ (s.tb.take i).map (·.2))) ∧ Hid (RowC X C 39 [.int .i64 s.id, .slice x n c, .slice y j d]) ∧ Hid (Below w.heap.size w X)) (fun _ jv _ => j - (intOf jv).toNat)
                      case atStart => exact ⟨0, (ux, un, uc), Nat.zero_le _, rfl, rfl, (by show InO _ _ _ _; rw [List.take_zero, List.map_nil, List.append_nil]; exact UV.out), RV, HBV⟩
                      case round =>
                        obtain ⟨X, hXwr⟩ : ∃ X, X = wr := ⟨_, rfl⟩
                        subst hXwr
                        obtain ⟨i, u', hi, rfl, rfl, HUI, RX, HBX⟩ := hrel
                        have c2 := RX.out.cell 2 _ rfl
                        by_cases hij : i < j
                        · obtain ⟨p, hp⟩ : ∃ p, s.tb[i]? = some p := ⟨_, List.getElem?_eq_getElem (by rw [← HM.out]; exact hij)⟩
                          obtain ⟨bb, boff, rfl, hbb, t0, t1⟩ := (HTB.out _ HBX.out).at hp
                          obtain ⟨pb, pa⟩ := p
                          simp only at t0 t1
                          have g2 : (i : Int) < (j : Int) := by omega
                          have HWI : Hid (wrap64 ((i : Int) + 1) = (i : Int) + 1) := IntWalk.wrap64_in _ (by omega)
                          obtain ⟨W3, vx, vn, vc, X4, hS1, hr, h1, h2⟩ := gd_app HUI.out HBX.out.size pa (by have := HAL.out; simp only [List.length_append, List.length_map, List.length_take]; omega)
                          have HA := Lib.hid hr
                          have SB := Lib.hid hS1
                          have HU4 : Hid (InO w.heap.size X4 (.slice vx vn vc) (A ++ (s.tb.take (i + 1)).map (·.2))) := by
                            show InO _ _ _ _
                            rw [take_at hp, List.map_append, ← List.append_assoc]
                            exact h1
                          have R4 := Lib.hid (RX.out.grownS HUI.out h2)
                          have HB4 : Hid (Below w.heap.size w X4) := HBX.out.grown h2 HBX.out.size (fun t e => (HUI.out.base t e).1)
                          obtain ⟨u0, u1, u2⟩ := u'
                          simp only [slV] at HA ⊢
                          have HIJ := Lib.hid hij
                          clear hp hbb t0 hr h1 h2 hS1 hij
                          go_wp2_with (first | (refine gate_build ?_; refine wpList_build_run 35 1 #[(0, .tmp 113)] rfl rfl [(0, .int .i64 pa)] _ rfl SB.out ?_) | (at_builtin; refine wpList_append_run (.tmp 107) (.tmp 114) 35 rfl rfl _ _ _ rfl rfl (HA.out _) ?_))
                          exact ⟨⟨i + 1, (vx, vn, vc), HIJ.out, by first | (simp; done) | (simp; exact HWI.out) | (rw [HWI.out]; simp), rfl, HU4, R4, HB4⟩, by have := HIJ.out; first | (simp [intOf]; omega) | (rw [HWI.out]; simp [intOf]; omega) | (simp [intOf, HWI.out]; omega)⟩
                        · obtain rfl : i = j := by omega
                          have HU5 : Hid (InO w.heap.size X (slV u') (cAts (l.take (k + 1)))) := by
                            have := HUI.out
                            rw [List.take_of_length_le (by have := HM.out; omega), ← HAN.out] at this
                            exact this
                          have c1 := RX.out.cell 1 _ rfl
                          have HALL := Lib.hid (rf_all (.slice x n c) s.ch X (HCH.out _ HBX.out) HOK.out.ch (by have := HCL.out; omega))
                          have g2 : ¬ ((i : Int) < (i : Int)) := by omega
                          clear HUI hij hi HBV RV UV
                          go_wp2_with fail
                          go_at_call 20
                          refine HALL.out.mono ?_
                          rintro e X6 ⟨cv, rfl, ho, hb6⟩
                          have HC0 : InO X.heap.size X6 cv ((allB s.ch).map fun k : Nat => (k : Int)) := by unfold InO; rw [List.length_map, ← natV_ints]; exact ho
                          obtain ⟨⟨ca, cn, cc⟩, rfl⟩ := HC0.isSl
                          have HCN : Hid (cn = ((allB s.ch).map fun k : Nat => (k : Int)).length) := InO.len (a := ca) (c := cc) HC0
                          obtain ⟨cl, hcl⟩ : ∃ cl, ((allB s.ch).map fun k : Nat => (k : Int)) = cl := ⟨_, rfl⟩
                          have HCLN : Hid (cl.length ≤ 8000) := by show _ ≤ _; rw [← hcl, List.length_map]; have := all_len s.ch; have := HCL.out; omega
                          rw [hcl] at HC0 HCN
                          have HCV := Lib.hid HC0
                          have HCE := Lib.hid hcl
                          have HU6 := Lib.hid (HU5.out.below hb6)
                          have R6 := Lib.hid (RX.out.below hb6)
                          have HB6 : Hid (Below w.heap.size w X6) := HBX.out.trans (hb6.mono HBX.out.size)
                          simp only [slV] at HCV ⊢
                          clear ho hb6 HC0 hcl HALL c1 c2 HU5 RX HBX
                          go_wp2_with fail
                          go_loopw [14] (fun jv V => ∃ j : Nat, j ≤ cn ∧ jv = .int .i64 (j : Int) ∧ Hid (∀ (t : Nat) (z : Int), t < j → cl[t]? = some z → (tFind s.tb z).isSome = true) ∧ Hid (Below X6.heap.size X6 V)) (fun jv _ => cn - (intOf jv).toNat)
                          case atStart => exact ⟨0, Nat.zero_le _, rfl, fun i p h => absurd h (by omega), Below.refl _ _⟩
                          case round =>
                            obtain ⟨V, hVwr⟩ : ∃ V, V = wr := ⟨_, rfl⟩
                            subst hVwr
                            obtain ⟨j, hj, rfl, HFJ, HV⟩ := hrel
                            have HWK := Lib.hid HW.out
                            have HBV : Hid (Below w.heap.size w V) := HB6.out.trans (HV.out.mono HB6.out.size)
                            have HUV := Lib.hid (HU6.out.below HV.out)
                            by_cases hjc : j < cn
                            · have g3 : (j : Int) < (cn : Int) := by omega
                              have g3' : decide ((j : Int) < (cn : Int)) = true := by simpa using g3
                              by_cases hkl : k + 1 < len
                              · have g4 : (k : Int) + 1 < (len : Int) := by omega
                                have g4' : decide ((k : Int) + 1 < (len : Int)) = true := by simpa using g4
                                obtain ⟨z0, hz0⟩ : ∃ z0, cl[j]? = some z0 := ⟨_, List.getElem?_eq_getElem (by rw [← HCN.out]; exact hjc)⟩
                                obtain ⟨g, rfl, hgs, u0⟩ := (HCV.out.below HV.out).at hz0
                                have d2 : ∀ z : Ext V, z.1.cell? ⟨C, 2, none⟩ = some (.slice y i d) := fun z => ((R6.out.below HV.out).below z.2).cell 2 _ rfl
                                have d5 : ∀ z : Ext V, z.1.cell? ⟨g, j, none⟩ = some (.int .i64 z0) := fun z => (z.2.cell (p := ⟨g, j, none⟩) hgs).trans u0
                                have HFD : Hid (∀ z : Ext V, Calls Try.prog 32 #[.slice y i d, .int .i64 z0] z.1 fun e w'' => e = .returned (.int .i64 (tIx s.tb z0)) ∧ ∃ y : Ext V, w'' = y.1) := fun z => (rf_find (HTB.out _ (HBV.out.trans (z.2.mono HBV.out.size))) z0 (by have := HCL.out; omega)).mono fun e w'' ⟨h1, h2⟩ => ⟨h1, z, h2⟩
                                have HWJ : Hid (wrap64 ((j : Int) + 1) = (j : Int) + 1) := IntWalk.wrap64_in _ (by have := HCN.out; have := HCLN.out; omega)
                                have HZ0 := Lib.hid hz0
                                have HJC := Lib.hid hjc
                                have HKL1 := Lib.hid hkl
                                clear hz0 hgs u0 hjc hkl
                                cases hf : tFind s.tb z0 with
                                | none =>
                                  have ht : tIx s.tb z0 = -1 := by unfold tIx; rw [hf]
                                  rw [ht] at HFD
                                  have HG : Hid (gd = false) := by
                                    show _ = _
                                    rw [HRT.out, rF_no (by rw [HCE.out]; exact HZ0.out) hf, decide_eq_false (by have := HKL1.out; have := HL.out; omega)]
                                    rfl
                                  clear hf ht
                                  go_wp2_with fail
                                  refine region_ext (by kernel_rfl) (by kernel_rfl) ?_
                                  repeat (go_big_quiet_step (with_reducible (first | exact HFD.out _)))
                                  try (with_reducible refine wpQuiet_nil ?_)
                                  intro z1
                                  have HBZ : Hid (Below w.heap.size w z1.1) := HBV.out.trans (z1.2.mono HBV.out.size)
                                  clear d2 d5 HFD
                                  go_wp2_with fail
                                  go_ret
                                  exact ⟨by rw [HG.out]; rfl, HBZ.out⟩
                                | some t =>
                                  have ht : tIx s.tb z0 = (t : Int) := by unfold tIx; rw [hf]
                                  rw [ht] at HFD
                                  have g5 : ¬ ((t : Int) < 0) := by omega
                                  have g5' : decide ((t : Int) < 0) = false := decide_eq_false g5
                                  have HF1 : Hid (∀ (t : Nat) (z : Int), t < j + 1 → cl[t]? = some z → (tFind s.tb z).isSome = true) := fun t' z ht' hz' => by
                                    by_cases e : t' = j
                                    · subst e; rw [HZ0.out] at hz'; cases hz'; rw [hf]; rfl
                                    · exact HFJ.out t' z (by omega) hz'
                                  clear hf ht
                                  go_wp2_with fail
                                  refine region_ext (by kernel_rfl) (by kernel_rfl) ?_
                                  repeat (go_big_quiet_step (with_reducible (first | exact HFD.out _)))
                                  try (with_reducible refine wpQuiet_nil ?_)
                                  intro z1
                                  have HV1 : Hid (Below X6.heap.size X6 z1.1) := HV.out.trans (z1.2.mono HV.out.size)
                                  clear d2 d5 HFD
                                  go_wp2_with fail
                                  exact ⟨⟨j + 1, HJC.out, by first | (simp; done) | (simp; exact HWJ.out) | (rw [HWJ.out]; simp), HF1, HV1⟩, by have := HJC.out; first | (simp [intOf]; omega) | (rw [HWJ.out]; simp [intOf]; omega) | (simp [intOf, HWJ.out]; omega)⟩
                              · have g4 : ¬ ((k : Int) + 1 < (len : Int)) := by omega
                                have g4' : decide ((k : Int) + 1 < (len : Int)) = false := by simpa using g4
                                have HNX : Hid (rGo bl ar (cAts (l.take (k + 1))) s.id (l.drop (k + 1)) = gd) := by
                                  show _ = _
                                  rw [HRT.out, decide_eq_true (by have := HL.out; omega), Bool.true_or, Bool.true_and]
                                clear hkl hjc HRT
                                go_wp2_with fail
                                exact ⟨⟨k + 1, u', s.id, HLT.out, by first | simp | (rw [HW.out]; simp), rfl, HUV, fun h => by simp at h, fun _ => ⟨s, HSK.out, rfl⟩, HID0, HNX, HBV⟩, by have := HLT.out; first | (simp [intOf]; omega) | (rw [HW.out]; simp [intOf]; omega)⟩
                            · have g3 : ¬ ((j : Int) < (cn : Int)) := by omega
                              have g3' : decide ((j : Int) < (cn : Int)) = false := by simpa using g3
                              have HNX : Hid (rGo bl ar (cAts (l.take (k + 1))) s.id (l.drop (k + 1)) = gd) := by
                                show _ = _
                                rw [HRT.out, rF_of (fun t z hz => by rw [HCE.out] at hz; exact HFJ.out t z (by have := (List.getElem?_eq_some_iff.1 hz).1; have := HCN.out; omega) hz), Bool.or_true, Bool.true_and]
                              clear hjc HRT
                              go_wp2_with fail
                              exact ⟨⟨k + 1, u', s.id, HLT.out, by first | simp | (rw [HW.out]; simp), rfl, HUV, fun h => by simp at h, fun _ => ⟨s, HSK.out, rfl⟩, HID0, HNX, HBV⟩, by have := HLT.out; first | (simp [intOf]; omega) | (rw [HW.out]; simp [intOf]; omega)⟩
            · obtain ⟨pp, hpp, hpl⟩ := HLP.out (by omega)
              obtain ⟨b', off', q', he, hbb, -, hqq, f0, -, -⟩ := HS.out.at hpp
              cases he
              obtain ⟨id', ch', tb'⟩ := q'
              simp only at f0
              obtain rfl : id' = last := by rw [← hpl]; exact hqq.id
              obtain ⟨m1, hm1⟩ : ∃ m1, k - 1 = m1 := ⟨_, rfl⟩
              rw [hm1] at f0
              have HD5 : Hid (decide (0 < k) = true) := by show _ = _; simp; omega
              have f3 : (k : Int) > 0 := by omega
              have f3' : decide ((k : Int) > 0) = true := by simpa using f3
              have hkm : (k : Int) - 1 = (m1 : Int) := by omega
              have hmn : (m1 : Int) < (len : Int) := by omega
              have p0 : ∀ z : Ext Y, z.1.cell? ⟨b, off + m1 * 3, none⟩ = some (.int .i64 id') := fun z => ((HBY.out.trans (z.2.mono HBY.out.size)).cell (p := ⟨b, off + m1 * 3, none⟩) hbb).trans f0
              clear hbb hqq f0 hpp hpl hm1 hk0
              by_cases q6 : s.id ≤ id'
              · have f4 : decide (s.id ≤ id') = true := by simpa using q6
                have HG : Hid (gd = false) := by show _ = _; rw [HST.out, rS_false (fun h => by omega), Bool.false_and]
                clear hls hst hA hb hq e0 e1 e2 hz bY rY HU hlt hs
                go_wp2_with fail
                clear LD ST
                try rw [hY]
                clear hY
                refine region_ext (by kernel_rfl) (by kernel_rfl) ?_
                repeat (go_big_quiet_step (with_reducible (first | exact HCG.out _ | exact HTG.out _)); try rw [HD5.out])
                try (with_reducible refine wpQuiet_nil ?_)
                intro z0
                have HBZ : Hid (Below w.heap.size w z0.1) := HBY.out.trans (z0.2.mono HBY.out.size)
                clear c0 c1 c2 HCG HTG
                clear p0
                go_wp2_with fail
                go_ret
                exact ⟨by rw [HG.out]; rfl, HBZ.out⟩
              · have f4 : decide (s.id ≤ id') = false := by simpa using q6
                cases hb5 : goodB s.ch bl with
                | false =>
                  rw [hb5] at HCG
                  have HG : Hid (gd = false) := by show _ = _; rw [HST.out, rS_false (fun h => by rw [hb5] at h; exact absurd h.2.2.2.1 (by decide)), Bool.false_and]
                  clear hls hst hA hb hq e0 e1 e2 hz bY rY HU hlt hs
                  clear hb5
                  go_wp2_with fail
                  clear LD ST
                  try rw [hY]
                  clear hY
                  refine region_ext (by kernel_rfl) (by kernel_rfl) ?_
                  repeat (go_big_quiet_step (with_reducible (first | exact HCG.out _ | exact HTG.out _)); try rw [HD5.out])
                  try (with_reducible refine wpQuiet_nil ?_)
                  intro z0
                  have HBZ : Hid (Below w.heap.size w z0.1) := HBY.out.trans (z0.2.mono HBY.out.size)
                  clear c0 c1 c2 HCG HTG
                  go_wp2_with fail
                  go_ret
                  exact ⟨by rw [HG.out]; rfl, HBZ.out⟩
                | true =>
                  rw [hb5] at HCG
                  cases hb6 : tGood s.tb bl ar with
                  | false =>
                    rw [hb6] at HTG
                    have HG : Hid (gd = false) := by show _ = _; rw [HST.out, rS_false (fun h => by rw [hb6] at h; exact absurd h.2.2.2.2 (by decide)), Bool.false_and]
                    clear hls hst hA hb hq e0 e1 e2 hz bY rY HU hlt hs
                    clear hb5 hb6
                    go_wp2_with fail
                    clear LD ST
                    try rw [hY]
                    clear hY
                    refine region_ext (by kernel_rfl) (by kernel_rfl) ?_
                    repeat (go_big_quiet_step (with_reducible (first | exact HCG.out _ | exact HTG.out _)); try rw [HD5.out])
                    try (with_reducible refine wpQuiet_nil ?_)
                    intro z0
                    have HBZ : Hid (Below w.heap.size w z0.1) := HBY.out.trans (z0.2.mono HBY.out.size)
                    clear c0 c1 c2 HCG HTG
                    go_wp2_with fail
                    go_ret
                    exact ⟨by rw [HG.out]; rfl, HBZ.out⟩
                  | true =>
                    rw [hb6] at HTG
                    have HRS : Hid (gd = (rT A s && ((decide (l.length ≤ k + 1) || rF s) && rGo bl ar (A ++ s.tb.map (·.2)) s.id (l.drop (k + 1))))) := by show _ = _; rw [HST.out, rS_true ⟨by omega, by omega, by omega, hb5, hb6⟩, Bool.true_and]
                    have HID0 : Hid (0 ≤ s.id) := by show 0 ≤ s.id; omega
                    clear hls hst hA hb hq e0 e1 e2 hz bY rY HU hlt hs HST hb5 hb6
                    go_wp2_with fail
                    clear LD ST
                    try rw [hY]
                    clear hY
                    refine region_ext (by kernel_rfl) (by kernel_rfl) ?_
                    repeat (go_big_quiet_step (with_reducible (first | exact HCG.out _ | exact HTG.out _)); try rw [HD5.out])
                    try (with_reducible refine wpQuiet_nil ?_)
                    intro z0
                    have HBZ : Hid (Below w.heap.size w z0.1) := HBY.out.trans (z0.2.mono HBY.out.size)
                    clear c0 c1 c2 HCG HTG

                    obtain ⟨Z, hZ⟩ : ∃ Z, z0.1 = Z := ⟨_, rfl⟩
                    have RZ := Lib.hid (RY.out.below z0.2)
                    have UZ := Lib.hid (HUY.out.below z0.2)
                    rw [hZ] at HBZ RZ UZ
                    try rw [hZ]
                    clear hZ z0 RY HUY HBY HB HD5 HLP HL0 HLN HW2 hlast HR
                    go_wp2_with fail
                    go_loopw [10] (fun jv V => ∃ j : Nat, j ≤ m ∧ jv = .int .i64 (j : Int) ∧ Hid (∀ (i : Nat) (p : Int × Int), i < j → s.tb[i]? = some p → hasB s.ch p.1 = true ∧ p.2 ∉ A) ∧ Hid (Below Z.heap.size Z V)) (fun jv _ => m - (intOf jv).toNat)
                    case atStart => exact ⟨0, Nat.zero_le _, rfl, fun i p h => absurd h (by omega), Below.refl _ _⟩
                    case round =>
                      obtain ⟨V, hVwr⟩ : ∃ V, V = wr := ⟨_, rfl⟩
                      subst hVwr
                      obtain ⟨j, hj, rfl, HAJ, HV⟩ := hrel
                      have HBV : Hid (Below w.heap.size w V) := HBZ.out.trans (HV.out.mono HBZ.out.size)
                      have RV := Lib.hid (RZ.out.below HV.out)
                      have UV := Lib.hid (UZ.out.below HV.out)
                      have c2 := RV.out.cell 2 _ rfl
                      by_cases hjm : j < m
                      · obtain ⟨p, hp⟩ : ∃ p, s.tb[j]? = some p := ⟨_, List.getElem?_eq_getElem (by rw [← HM.out]; exact hjm)⟩
                        obtain ⟨bb, boff, rfl, hbb, t0, t1⟩ := (HTB.out _ HBV.out).at hp
                        have g2 : (j : Int) < (m : Int) := by omega
                        have HWJ : Hid (wrap64 ((j : Int) + 1) = (j : Int) + 1) := IntWalk.wrap64_in _ (by omega)
                        have hp64 := HOK.out.tb p (List.mem_of_getElem? hp)
                        obtain ⟨pb, pa⟩ := p
                        simp only at t0 t1 hp64
                        have d1 : ∀ z : Ext V, z.1.cell? ⟨C, 1, none⟩ = some (.slice x n c) := fun z => (RV.out.below z.2).cell 1 _ rfl
                        have d2 : ∀ z : Ext V, z.1.cell? ⟨C, 2, none⟩ = some (.slice (some ⟨bb, boff, none⟩) m d) := fun z => (RV.out.below z.2).cell 2 _ rfl
                        have d3 : ∀ z : Ext V, z.1.cell? ⟨bb, boff + j * 2, none⟩ = some (.int .i64 pb) := fun z => (z.2.cell (p := ⟨bb, boff + j * 2, none⟩) hbb).trans t0
                        have HHA : Hid (∀ z : Ext V, Calls Try.prog 31 #[.slice x n c, .int .i64 pb] z.1 fun e w'' => e = .returned (.bool (hasB s.ch pb)) ∧ ∃ y : Ext V, w'' = y.1) := fun z => (rf_has _ s.ch pb (wf_i64 hp64.1.1 hp64.1.2) z.1 (HCH.out _ (HBV.out.trans (z.2.mono HBV.out.size))) HOK.out.ch).mono fun e w'' ⟨h1, h2⟩ => ⟨h1, z, h2⟩
                        have HJM := Lib.hid hjm
                        have HP := Lib.hid hp
                        have HBB : Hid (bb < V.heap.size ∧ V.cell? ⟨bb, boff + j * 2 + 1, none⟩ = some (.int .i64 pa)) := ⟨hbb, t1⟩
                        cases hh : hasB s.ch pb with
                        | false =>
                          rw [hh] at HHA
                          have HG : Hid (gd = false) := by show _ = _; rw [HRS.out, rT_no HP.out (.inl hh), Bool.false_and]
                          clear hjm hp hbb t0 t1 hp64 hh
                          go_wp2_with fail
                          refine region_ext (by kernel_rfl) (by kernel_rfl) ?_
                          repeat (go_big_quiet_step (with_reducible (first | exact HHA.out _)))
                          try (with_reducible refine wpQuiet_nil ?_)
                          intro z1
                          have HBZ : Hid (Below w.heap.size w z1.1) := HBV.out.trans (z1.2.mono HBV.out.size)
                          clear d1 d2 d3 HHA c2
                          go_wp2_with fail
                          go_ret
                          exact ⟨by rw [HG.out]; rfl, HBZ.out⟩
                        | true =>
                          rw [hh] at HHA
                          have HHH := Lib.hid hh
                          clear hjm hp hbb t0 t1 hp64 hh
                          go_wp2_with fail
                          refine region_ext (by kernel_rfl) (by kernel_rfl) ?_
                          repeat (go_big_quiet_step (with_reducible (first | exact HHA.out _)))
                          try (with_reducible refine wpQuiet_nil ?_)
                          intro z1
                          obtain ⟨V2, hV2⟩ : ∃ V2, z1.1 = V2 := ⟨_, rfl⟩
                          have bV : Below V.heap.size V V2 := by rw [← hV2]; exact z1.2
                          have RV2 := Lib.hid (RV.out.below bV)
                          have UV2 := Lib.hid (UV.out.below bV)
                          have HBV2 : Hid (Below w.heap.size w V2) := HBV.out.trans (bV.mono HBV.out.size)
                          have HV2 : Hid (Below Z.heap.size Z V2) := HV.out.trans (bV.mono HV.out.size)
                          have HPA : Hid (bb < V2.heap.size ∧ V2.cell? ⟨bb, boff + j * 2 + 1, none⟩ = some (.int .i64 pa)) := ⟨Nat.lt_of_lt_of_le HBB.out.1 bV.size, (bV.cell (p := ⟨bb, boff + j * 2 + 1, none⟩) HBB.out.1).trans HBB.out.2⟩
                          try rw [hV2]
                          clear d1 d2 d3 HHA c2 hV2 z1 bV RV UV HBV HV HBB
                          go_wp2_with fail
                          go_loopw [11] (fun iv X => ∃ i : Nat, i ≤ un ∧ iv = .int .i64 (i : Int) ∧ Hid (∀ (i' : Nat) (y : Int), i' < i → A[i']? = some y → y ≠ pa) ∧ Hid (Below V2.heap.size V2 X)) (fun iv _ => un - (intOf iv).toNat)
                          case atStart => exact ⟨0, Nat.zero_le _, rfl, fun i p h => absurd h (by omega), Below.refl _ _⟩
                          case round =>
                            obtain ⟨X, hXwr⟩ : ∃ X, X = wr := ⟨_, rfl⟩
                            subst hXwr
                            obtain ⟨i, hi, rfl, HI, HX⟩ := hrel
                            by_cases hin : i < un
                            · obtain ⟨y0, hy0⟩ : ∃ y0, A[i]? = some y0 := ⟨_, List.getElem?_eq_getElem (by rw [← HUN.out]; exact hin)⟩
                              obtain ⟨g, rfl, hgs, u0⟩ := (UV2.out.below HX.out).at hy0
                              have d2 : ∀ z : Ext X, z.1.cell? ⟨C, 2, none⟩ = some (.slice (some ⟨bb, boff, none⟩) m d) := fun z => ((RV2.out.below HX.out).below z.2).cell 2 _ rfl
                              have d4 : ∀ z : Ext X, z.1.cell? ⟨bb, boff + j * 2 + 1, none⟩ = some (.int .i64 pa) := fun z => (z.2.cell (p := ⟨bb, boff + j * 2 + 1, none⟩) (Nat.lt_of_lt_of_le HPA.out.1 HX.out.size)).trans ((HX.out.cell (p := ⟨bb, boff + j * 2 + 1, none⟩) HPA.out.1).trans HPA.out.2)
                              have d5 : ∀ z : Ext X, z.1.cell? ⟨g, i, none⟩ = some (.int .i64 y0) := fun z => (z.2.cell (p := ⟨g, i, none⟩) hgs).trans u0
                              have g3 : (i : Int) < (un : Int) := by omega
                              have HWI : Hid (wrap64 ((i : Int) + 1) = (i : Int) + 1) := IntWalk.wrap64_in _ (by have := HUN.out; have := HAL.out; omega)
                              have HIN := Lib.hid hin
                              have HY0 := Lib.hid hy0
                              have g4 : (j : Int) < (m : Int) := g2
                              clear hy0 hgs u0 hin
                              by_cases hyp : y0 = pa
                              · have qy : (y0 == pa) = true := by simpa using hyp
                                have HG : Hid (gd = false) := by show _ = _; rw [HRS.out, rT_no HP.out (.inr (by show pa ∈ A; rw [← hyp]; exact List.mem_of_getElem? HY0.out)), Bool.false_and]
                                clear hyp
                                go_wp2_with fail
                                refine region_ext (by kernel_rfl) (by kernel_rfl) ?_
                                repeat (go_big_quiet_step (fail))
                                try (with_reducible refine wpQuiet_nil ?_)
                                intro z1
                                have HBZ : Hid (Below w.heap.size w z1.1) := HBV2.out.trans ((HX.out.trans (z1.2.mono HX.out.size)).mono HBV2.out.size)
                                clear d2 d4 d5
                                go_wp2_with fail
                                go_ret
                                exact ⟨by rw [HG.out]; rfl, HBZ.out⟩
                              · have qy : (y0 == pa) = false := by simpa using hyp
                                have HI1 : Hid (∀ (i' : Nat) (y : Int), i' < i + 1 → A[i']? = some y → y ≠ pa) := fun i' y hi' hy' => by
                                  by_cases e : i' = i
                                  · subst e; rw [HY0.out] at hy'; cases hy'; exact hyp
                                  · exact HI.out i' y (by omega) hy'
                                go_wp2_with fail
                                refine region_ext (by kernel_rfl) (by kernel_rfl) ?_
                                repeat (go_big_quiet_step (fail))
                                try (with_reducible refine wpQuiet_nil ?_)
                                intro z1
                                have HX1 : Hid (Below V2.heap.size V2 z1.1) := HX.out.trans (z1.2.mono HX.out.size)
                                clear d2 d4 d5
                                go_wp2_with fail
                                exact ⟨⟨i + 1, HIN.out, by first | (simp; done) | (simp; exact HWI.out) | (rw [HWI.out]; simp), HI1, HX1⟩, by have := HIN.out; first | (simp [intOf]; omega) | (rw [HWI.out]; simp [intOf]; omega) | (simp [intOf, HWI.out]; omega)⟩
                            · have hie : un ≤ i := by omega
                              have HNA : Hid (∀ (i' : Nat) (p : Int × Int), i' < j + 1 → s.tb[i']? = some p → hasB s.ch p.1 = true ∧ p.2 ∉ A) := fun i' p hi' hp' => by
                                by_cases e : i' = j
                                · subst e
                                  rw [HP.out] at hp'
                                  cases hp'
                                  refine ⟨HHH.out, fun hm => ?_⟩
                                  obtain ⟨t, ht⟩ := List.getElem?_of_mem hm
                                  exact HI.out t _ (by have := (List.getElem?_eq_some_iff.1 ht).1; have := HUN.out; omega) ht rfl
                                · exact HAJ.out i' p (by omega) hp'
                              have g3 : ¬ ((i : Int) < (un : Int)) := by omega
                              have g3' : decide ((i : Int) < (un : Int)) = false := by simpa using g3
                              have HVX : Hid (Below Z.heap.size Z X) := HV2.out.trans (HX.out.mono HV2.out.size)
                              clear hie
                              go_wp2_with fail
                              exact ⟨⟨j + 1, HJM.out, by first | (simp; done) | (simp; exact HWJ.out) | (rw [HWJ.out]; simp), HNA, HVX⟩, by have := HJM.out; first | (simp [intOf]; omega) | (rw [HWJ.out]; simp [intOf]; omega) | (simp [intOf, HWJ.out]; omega)⟩
                      · obtain rfl : j = m := by omega
                        have HRT : Hid (gd = ((decide (l.length ≤ k + 1) || rF s) && rGo bl ar (cAts (l.take (k + 1))) s.id (l.drop (k + 1)))) := by
                          show _ = _
                          rw [HRS.out, HAN.out, rT_of (fun i p hp => HAJ.out i p (by have := (List.getElem?_eq_some_iff.1 hp).1; have := HM.out; omega) hp), Bool.true_and]
                        clear HRS HV HAJ RZ UZ HBZ hjm hj
                        go_wp2_with fail
                        clear c2
                        go_loopw [7, 12] (fun uv jv X => ∃ (i : Nat) (u' : SlV), i ≤ j ∧ jv = .int .i64 (i : Int) ∧ uv = slV u' ∧ Hid (InO w.heap.size X (slV u') (A ++ (s.tb.take i).map (·.2))) ∧ Hid (RowC X C 39 [.int .i64 s.id, .slice x n c, .slice y j d]) ∧ Hid (Below w.heap.size w X)) (fun _ jv _ => j - (intOf jv).toNat)
                        case atStart => exact ⟨0, (ux, un, uc), Nat.zero_le _, rfl, rfl, (by show InO _ _ _ _; rw [List.take_zero, List.map_nil, List.append_nil]; exact UV.out), RV, HBV⟩
                        case round =>
                          obtain ⟨X, hXwr⟩ : ∃ X, X = wr := ⟨_, rfl⟩
                          subst hXwr
                          obtain ⟨i, u', hi, rfl, rfl, HUI, RX, HBX⟩ := hrel
                          have c2 := RX.out.cell 2 _ rfl
                          by_cases hij : i < j
                          · obtain ⟨p, hp⟩ : ∃ p, s.tb[i]? = some p := ⟨_, List.getElem?_eq_getElem (by rw [← HM.out]; exact hij)⟩
                            obtain ⟨bb, boff, rfl, hbb, t0, t1⟩ := (HTB.out _ HBX.out).at hp
                            obtain ⟨pb, pa⟩ := p
                            simp only at t0 t1
                            have g2 : (i : Int) < (j : Int) := by omega
                            have HWI : Hid (wrap64 ((i : Int) + 1) = (i : Int) + 1) := IntWalk.wrap64_in _ (by omega)
                            obtain ⟨W3, vx, vn, vc, X4, hS1, hr, h1, h2⟩ := gd_app HUI.out HBX.out.size pa (by have := HAL.out; simp only [List.length_append, List.length_map, List.length_take]; omega)
                            have HA := Lib.hid hr
                            have SB := Lib.hid hS1
                            have HU4 : Hid (InO w.heap.size X4 (.slice vx vn vc) (A ++ (s.tb.take (i + 1)).map (·.2))) := by
                              show InO _ _ _ _
                              rw [take_at hp, List.map_append, ← List.append_assoc]
                              exact h1
                            have R4 := Lib.hid (RX.out.grownS HUI.out h2)
                            have HB4 : Hid (Below w.heap.size w X4) := HBX.out.grown h2 HBX.out.size (fun t e => (HUI.out.base t e).1)
                            obtain ⟨u0, u1, u2⟩ := u'
                            simp only [slV] at HA ⊢
                            have HIJ := Lib.hid hij
                            clear hp hbb t0 hr h1 h2 hS1 hij
                            go_wp2_with (first | (refine gate_build ?_; refine wpList_build_run 35 1 #[(0, .tmp 113)] rfl rfl [(0, .int .i64 pa)] _ rfl SB.out ?_) | (at_builtin; refine wpList_append_run (.tmp 107) (.tmp 114) 35 rfl rfl _ _ _ rfl rfl (HA.out _) ?_))
                            exact ⟨⟨i + 1, (vx, vn, vc), HIJ.out, by first | (simp; done) | (simp; exact HWI.out) | (rw [HWI.out]; simp), rfl, HU4, R4, HB4⟩, by have := HIJ.out; first | (simp [intOf]; omega) | (rw [HWI.out]; simp [intOf]; omega) | (simp [intOf, HWI.out]; omega)⟩
                          · obtain rfl : i = j := by omega
                            have HU5 : Hid (InO w.heap.size X (slV u') (cAts (l.take (k + 1)))) := by
                              have := HUI.out
                              rw [List.take_of_length_le (by have := HM.out; omega), ← HAN.out] at this
                              exact this
                            have c1 := RX.out.cell 1 _ rfl
                            have HALL := Lib.hid (rf_all (.slice x n c) s.ch X (HCH.out _ HBX.out) HOK.out.ch (by have := HCL.out; omega))
                            have g2 : ¬ ((i : Int) < (i : Int)) := by omega
                            clear HUI hij hi HBV RV UV
                            go_wp2_with fail
                            go_at_call 20
                            refine HALL.out.mono ?_
                            rintro e X6 ⟨cv, rfl, ho, hb6⟩
                            have HC0 : InO X.heap.size X6 cv ((allB s.ch).map fun k : Nat => (k : Int)) := by unfold InO; rw [List.length_map, ← natV_ints]; exact ho
                            obtain ⟨⟨ca, cn, cc⟩, rfl⟩ := HC0.isSl
                            have HCN : Hid (cn = ((allB s.ch).map fun k : Nat => (k : Int)).length) := InO.len (a := ca) (c := cc) HC0
                            obtain ⟨cl, hcl⟩ : ∃ cl, ((allB s.ch).map fun k : Nat => (k : Int)) = cl := ⟨_, rfl⟩
                            have HCLN : Hid (cl.length ≤ 8000) := by show _ ≤ _; rw [← hcl, List.length_map]; have := all_len s.ch; have := HCL.out; omega
                            rw [hcl] at HC0 HCN
                            have HCV := Lib.hid HC0
                            have HCE := Lib.hid hcl
                            have HU6 := Lib.hid (HU5.out.below hb6)
                            have R6 := Lib.hid (RX.out.below hb6)
                            have HB6 : Hid (Below w.heap.size w X6) := HBX.out.trans (hb6.mono HBX.out.size)
                            simp only [slV] at HCV ⊢
                            clear ho hb6 HC0 hcl HALL c1 c2 HU5 RX HBX
                            go_wp2_with fail
                            go_loopw [14] (fun jv V => ∃ j : Nat, j ≤ cn ∧ jv = .int .i64 (j : Int) ∧ Hid (∀ (t : Nat) (z : Int), t < j → cl[t]? = some z → (tFind s.tb z).isSome = true) ∧ Hid (Below X6.heap.size X6 V)) (fun jv _ => cn - (intOf jv).toNat)
                            case atStart => exact ⟨0, Nat.zero_le _, rfl, fun i p h => absurd h (by omega), Below.refl _ _⟩
                            case round =>
                              obtain ⟨V, hVwr⟩ : ∃ V, V = wr := ⟨_, rfl⟩
                              subst hVwr
                              obtain ⟨j, hj, rfl, HFJ, HV⟩ := hrel
                              have HWK := Lib.hid HW.out
                              have HBV : Hid (Below w.heap.size w V) := HB6.out.trans (HV.out.mono HB6.out.size)
                              have HUV := Lib.hid (HU6.out.below HV.out)
                              by_cases hjc : j < cn
                              · have g3 : (j : Int) < (cn : Int) := by omega
                                have g3' : decide ((j : Int) < (cn : Int)) = true := by simpa using g3
                                by_cases hkl : k + 1 < len
                                · have g4 : (k : Int) + 1 < (len : Int) := by omega
                                  have g4' : decide ((k : Int) + 1 < (len : Int)) = true := by simpa using g4
                                  obtain ⟨z0, hz0⟩ : ∃ z0, cl[j]? = some z0 := ⟨_, List.getElem?_eq_getElem (by rw [← HCN.out]; exact hjc)⟩
                                  obtain ⟨g, rfl, hgs, u0⟩ := (HCV.out.below HV.out).at hz0
                                  have d2 : ∀ z : Ext V, z.1.cell? ⟨C, 2, none⟩ = some (.slice y i d) := fun z => ((R6.out.below HV.out).below z.2).cell 2 _ rfl
                                  have d5 : ∀ z : Ext V, z.1.cell? ⟨g, j, none⟩ = some (.int .i64 z0) := fun z => (z.2.cell (p := ⟨g, j, none⟩) hgs).trans u0
                                  have HFD : Hid (∀ z : Ext V, Calls Try.prog 32 #[.slice y i d, .int .i64 z0] z.1 fun e w'' => e = .returned (.int .i64 (tIx s.tb z0)) ∧ ∃ y : Ext V, w'' = y.1) := fun z => (rf_find (HTB.out _ (HBV.out.trans (z.2.mono HBV.out.size))) z0 (by have := HCL.out; omega)).mono fun e w'' ⟨h1, h2⟩ => ⟨h1, z, h2⟩
                                  have HWJ : Hid (wrap64 ((j : Int) + 1) = (j : Int) + 1) := IntWalk.wrap64_in _ (by have := HCN.out; have := HCLN.out; omega)
                                  have HZ0 := Lib.hid hz0
                                  have HJC := Lib.hid hjc
                                  have HKL1 := Lib.hid hkl
                                  clear hz0 hgs u0 hjc hkl
                                  cases hf : tFind s.tb z0 with
                                  | none =>
                                    have ht : tIx s.tb z0 = -1 := by unfold tIx; rw [hf]
                                    rw [ht] at HFD
                                    have HG : Hid (gd = false) := by
                                      show _ = _
                                      rw [HRT.out, rF_no (by rw [HCE.out]; exact HZ0.out) hf, decide_eq_false (by have := HKL1.out; have := HL.out; omega)]
                                      rfl
                                    clear hf ht
                                    go_wp2_with fail
                                    refine region_ext (by kernel_rfl) (by kernel_rfl) ?_
                                    repeat (go_big_quiet_step (with_reducible (first | exact HFD.out _)))
                                    try (with_reducible refine wpQuiet_nil ?_)
                                    intro z1
                                    have HBZ : Hid (Below w.heap.size w z1.1) := HBV.out.trans (z1.2.mono HBV.out.size)
                                    clear d2 d5 HFD
                                    go_wp2_with fail
                                    go_ret
                                    exact ⟨by rw [HG.out]; rfl, HBZ.out⟩
                                  | some t =>
                                    have ht : tIx s.tb z0 = (t : Int) := by unfold tIx; rw [hf]
                                    rw [ht] at HFD
                                    have g5 : ¬ ((t : Int) < 0) := by omega
                                    have g5' : decide ((t : Int) < 0) = false := decide_eq_false g5
                                    have HF1 : Hid (∀ (t : Nat) (z : Int), t < j + 1 → cl[t]? = some z → (tFind s.tb z).isSome = true) := fun t' z ht' hz' => by
                                      by_cases e : t' = j
                                      · subst e; rw [HZ0.out] at hz'; cases hz'; rw [hf]; rfl
                                      · exact HFJ.out t' z (by omega) hz'
                                    clear hf ht
                                    go_wp2_with fail
                                    refine region_ext (by kernel_rfl) (by kernel_rfl) ?_
                                    repeat (go_big_quiet_step (with_reducible (first | exact HFD.out _)))
                                    try (with_reducible refine wpQuiet_nil ?_)
                                    intro z1
                                    have HV1 : Hid (Below X6.heap.size X6 z1.1) := HV.out.trans (z1.2.mono HV.out.size)
                                    clear d2 d5 HFD
                                    go_wp2_with fail
                                    exact ⟨⟨j + 1, HJC.out, by first | (simp; done) | (simp; exact HWJ.out) | (rw [HWJ.out]; simp), HF1, HV1⟩, by have := HJC.out; first | (simp [intOf]; omega) | (rw [HWJ.out]; simp [intOf]; omega) | (simp [intOf, HWJ.out]; omega)⟩
                                · have g4 : ¬ ((k : Int) + 1 < (len : Int)) := by omega
                                  have g4' : decide ((k : Int) + 1 < (len : Int)) = false := by simpa using g4
                                  have HNX : Hid (rGo bl ar (cAts (l.take (k + 1))) s.id (l.drop (k + 1)) = gd) := by
                                    show _ = _
                                    rw [HRT.out, decide_eq_true (by have := HL.out; omega), Bool.true_or, Bool.true_and]
                                  clear hkl hjc HRT
                                  go_wp2_with fail
                                  exact ⟨⟨k + 1, u', s.id, HLT.out, by first | simp | (rw [HW.out]; simp), rfl, HUV, fun h => by simp at h, fun _ => ⟨s, HSK.out, rfl⟩, HID0, HNX, HBV⟩, by have := HLT.out; first | (simp [intOf]; omega) | (rw [HW.out]; simp [intOf]; omega)⟩
                              · have g3 : ¬ ((j : Int) < (cn : Int)) := by omega
                                have g3' : decide ((j : Int) < (cn : Int)) = false := by simpa using g3
                                have HNX : Hid (rGo bl ar (cAts (l.take (k + 1))) s.id (l.drop (k + 1)) = gd) := by
                                  show _ = _
                                  rw [HRT.out, rF_of (fun t z hz => by rw [HCE.out] at hz; exact HFJ.out t z (by have := (List.getElem?_eq_some_iff.1 hz).1; have := HCN.out; omega) hz), Bool.or_true, Bool.true_and]
                                clear hjc HRT
                                go_wp2_with fail
                                exact ⟨⟨k + 1, u', s.id, HLT.out, by first | simp | (rw [HW.out]; simp), rfl, HUV, fun h => by simp at h, fun _ => ⟨s, HSK.out, rfl⟩, HID0, HNX, HBV⟩, by have := HLT.out; first | (simp [intOf]; omega) | (rw [HW.out]; simp [intOf]; omega)⟩
      · obtain rfl : k = len := by omega
        have HG : Hid (gd = true) := by
          show _ = _
          have := HR.out
          rw [rGo_end (by rw [HL.out]; exact Nat.le_refl _)] at this
          exact this.symm
        clear hlt HR
        go_wp2_with fail
        go_ret
        exact ⟨by rw [HG.out]; rfl, HB.out⟩
end
section
open Go.RowKit Go.Shelf
set_option maxRecDepth 100000 in
theorem Arg.four {W : World} {t e : TypeId} {v : Value} {k : IntKind} (h : Arg W t v) (hu : Try.prog.underlying t = some (.array 4 e)) (he : Try.prog.underlying e = some (.int k)) (hc : Try.prog.cellsOf e = 1) (hs : Try.prog.cellsOf t = 4) :
    ∃ a b c d, v = .agg #[.int k a, .int k b, .int k c, .int k d] ∧ (Lit.int k a).wf = true ∧ (Lit.int k b).wf = true ∧ (Lit.int k c).wf = true ∧ (Lit.int k d).wf = true := by
  obtain ⟨cs, rfl, hl, hcs⟩ := h.agg (.inr ⟨_, _, hu⟩)
  obtain ⟨_, hj⟩ := hcs.array hu
  rw [hs] at hl
  rw [hc] at hj
  match cs, hl with
  | [x, y, z, t], _ =>
    obtain ⟨a, e1, wa⟩ := (hj 0 (by omega)).int he
    obtain ⟨b, e2, wb⟩ := (hj 1 (by omega)).int he
    obtain ⟨c, e3, wc⟩ := (hj 2 (by omega)).int he
    obtain ⟨d, e4, wd⟩ := (hj 3 (by omega)).int he
    simp at e1 e2 e3 e4
    subst e1 e2 e3 e4
    exact ⟨a, b, c, d, rfl, wa, wb, wc, wd⟩
end
end Go.Proofs.Ytiidfffedoekiaa
