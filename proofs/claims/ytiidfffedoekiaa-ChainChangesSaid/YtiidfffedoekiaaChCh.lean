/- Plain facts: what changed, from one to another by way of a third; what is held. -/
import Derived.Test.YtiidfffedoekiaaChTp
import Derived.Deep.Cut
namespace Go.Proofs.Ytiidfffedoekiaa
open Go.RowKit Go.Shelf

theorem bit_none (c : Nat) : bitAt [] c = false := by simp [bitAt]
theorem chB_bit (c : Nat) : ∀ (l : List SN), bitAt (chB l) c = l.any fun s => bitAt s.ch c := by
  have key : ∀ (l : List SN) (a : List Int), bitAt (l.foldl (fun a s => orB a s.ch) a) c = (bitAt a c || l.any fun s => bitAt s.ch c) := by
    intro l
    induction l with
    | nil => intro a; simp
    | cons s l ih => intro a; rw [List.foldl_cons, ih, or_bit, List.any_cons, Bool.or_assoc]
  intro l
  unfold chB
  rw [key, bit_none, Bool.false_or]
theorem chB_max : ∀ (l : List SN), (chB l).length = (l.map fun s => s.ch.length).foldl max 0 := by
  have key : ∀ (l : List SN) (a : List Int), (l.foldl (fun a s => orB a s.ch) a).length = (l.map fun s => s.ch.length).foldl max a.length := by
    intro l
    induction l with
    | nil => intro a; rfl
    | cons s l ih => intro a; rw [List.foldl_cons, ih, or_length, List.map_cons, List.foldl_cons]
  intro l
  exact key l []
theorem foldl_max : ∀ (l : List Nat) (a b : Nat), l.foldl max (max a b) = max a (l.foldl max b)
  | [], _, _ => rfl
  | x :: l, a, b => by rw [List.foldl_cons, List.foldl_cons, Nat.max_assoc]; exact foldl_max l a (max b x)
theorem chB_append {a b : List SN} (ha : ∀ s ∈ a, IsBytes s.ch) (hb : ∀ s ∈ b, IsBytes s.ch) : orB (chB a) (chB b) = chB (a ++ b) := by
  refine bits_ext (or_bytes (chB_bytes a ha) (chB_bytes b hb)) (chB_bytes _ fun s hs => by rcases List.mem_append.1 hs with h | h; exact ha s h; exact hb s h) ?_ fun i => ?_
  · rw [or_length, chB_max, chB_max, chB_max, List.map_append, List.foldl_append, ← foldl_max, Nat.max_zero]
  · rw [or_bit, chB_bit, chB_bit, chB_bit, List.any_append]
theorem chg_seg {l : List SN} {i k : Nat} (hk : k < l.length) : cChg l (i : Int) (k : Int) = chB ((l.take k).drop i) := by
  unfold cChg
  rw [show hiOf l (k : Int) = k from by unfold hiOf; rw [if_pos (by omega), Int.toNat_natCast], show loOf (i : Int) = i from by unfold loOf; rw [Int.toNat_natCast]]
theorem chg_both {l : List SN} (hl : ∀ s ∈ l, IsBytes s.ch) {i j k : Nat} (hij : i ≤ j) (hjk : j ≤ k) (hk : k < l.length) : orB (cChg l (i : Int) (j : Int)) (cChg l (j : Int) (k : Int)) = cChg l (i : Int) (k : Int) := by
  rw [chg_seg (by omega), chg_seg hk, chg_seg hk]
  have hs : (l.take k).drop i = (l.take j).drop i ++ (l.take k).drop j := by
    have h1 := (List.take_append_drop (j - i) ((l.take k).drop i)).symm
    rw [List.drop_drop, show i + (j - i) = j from by omega] at h1
    rw [h1]
    congr 1
    rw [List.take_drop, List.take_take]
    congr 2
    omega
  rw [hs]
  exact chB_append (fun s h => hl s (List.mem_of_mem_take (List.mem_of_mem_drop h))) (fun s h => hl s (List.mem_of_mem_take (List.mem_of_mem_drop h)))
theorem rise_at {l : List SN} {bl ar : Int} (h : cRise bl ar 0 l = true) : ∀ t : Nat, ∃ last, cRise bl ar last (l.drop t) = true
  | 0 => ⟨0, h⟩
  | t + 1 => by
    obtain ⟨last, ht⟩ := rise_at h t
    cases hs : l[t]? with
    | none =>
      have := List.getElem?_eq_none_iff.1 hs
      exact ⟨0, cRise_end (by omega) bl ar 0⟩
    | some s =>
      rw [cRise_at hs] at ht
      simp only [Bool.and_eq_true] at ht
      exact ⟨s.id, ht.2.2.2.2⟩
theorem good_at {l : List SN} {bl ar : Int} (h : cGood l bl ar = true) {t : Nat} {s : SN} (hs : l[t]? = some s) : fitS s bl ar = true ∧ (t + 1 < l.length → rF s = true) := by
  unfold cGood at h
  simp only [Bool.and_eq_true] at h
  obtain ⟨last, ht⟩ := rise_at h.2.1 t
  rw [cRise_at hs] at ht
  simp only [Bool.and_eq_true] at ht
  have hf := ht.2.2.1
  refine ⟨hf, fun hl => ?_⟩
  unfold fitS at hf
  simp only [Bool.and_eq_true, List.all_eq_true] at hf
  rw [← full_iff hf.2.1 hf.2.2]
  have h4 := ht.2.2.2.1
  rw [decide_eq_false (by omega), Bool.false_or] at h4
  exact h4
theorem good_table {l : List SN} {bl ar : Int} (h : cGood l bl ar = true) {t : Nat} {s : SN} (hs : l[t]? = some s) {p : Int × Int} (hp : p ∈ s.tb) : (tFind s.tb p.1).isSome = true ∧ tAt s.tb p.1 = p.2 := by
  have hf := (good_at h hs).1
  unfold fitS at hf
  simp only [Bool.and_eq_true] at hf
  exact ((tGood_iff _ _ _).1 hf.2.1).2.1.at hp
theorem first_some {l : List SN} {b : Int} : ∀ (n i t : Nat) (s : SN), t = i + n → l[t]? = some s → (tFind s.tb b).isSome = true → (firstT (l.drop i) b).isSome = true
  | 0, i, t, s, e, hs, hf => by
    obtain rfl : t = i := by omega
    rw [firstT_at hs, if_pos hf]; rfl
  | n + 1, i, t, s, e, hs, hf => by
    obtain ⟨u, hu⟩ : ∃ u, l[i]? = some u := ⟨_, List.getElem?_eq_getElem (by have := (List.getElem?_eq_some_iff.1 hs).1; omega)⟩
    rw [firstT_at hu]
    split
    · rfl
    · exact first_some n (i + 1) t s (by omega) hs hf
theorem held {l : List SN} {bl ar : Int} (h : cGood l bl ar = true) {i k : Nat} (hk : k < l.length) {c : Nat} (hc : c ∈ allB (cChg l (i : Int) (k : Int))) : (cHold l (i : Int) (c : Int)).isSome = true := by
  rw [chg_seg hk] at hc
  have hb := mem_all.1 hc
  rw [chB_bit, List.any_eq_true] at hb
  obtain ⟨s, hm, hs⟩ := hb
  obtain ⟨n, hn⟩ := List.getElem?_of_mem hm
  rw [List.getElem?_drop, List.getElem?_take] at hn
  split at hn
  · rename_i hlt
    have hF := (good_at h hn).2 (by omega)
    unfold rF at hF
    rw [List.all_eq_true] at hF
    have hf := hF c (mem_all.2 hs)
    unfold cHold
    rw [if_neg (by omega), Int.toNat_natCast]
    exact first_some n i (i + n) s rfl hn hf
  · cases hn
/-- A number from i up to len, drawn by n. -/
theorem idx_step {n : Int} (h0 : 0 ≤ n) {i len : Nat} (hi : i < len) (hl : len ≤ 12) : ∃ d j1 j : Nat, (len : Int) - (i : Int) = (d : Int) ∧ wrap64 ((len : Int) - (i : Int)) = (d : Int) ∧ ¬ ((d : Int) = 0) ∧ ((d : Int) == 0) = false ∧ n % (d : Int) = (j1 : Int) ∧ n.tmod (d : Int) = (j1 : Int) ∧ (i : Int) + (j1 : Int) = (j : Int) ∧ wrap64 ((i : Int) + (j1 : Int)) = (j : Int) ∧ i ≤ j ∧ j < len := by
  obtain ⟨d, rfl⟩ : ∃ d, len = i + d := ⟨len - i, by omega⟩
  have hd : ((i + d : Nat) : Int) - (i : Int) = (d : Int) := by omega
  have gdn : ¬ ((d : Int) = 0) := by omega
  have h1 := Int.emod_nonneg n gdn
  have h2 := Int.emod_lt_of_pos n (show (0 : Int) < (d : Int) by omega)
  have h3 := Int.tmod_eq_emod_of_nonneg (b := (d : Int)) h0
  obtain ⟨j1, hj1⟩ : ∃ j1 : Nat, n % (d : Int) = (j1 : Int) := ⟨(n % (d : Int)).toNat, (Int.toNat_of_nonneg h1).symm⟩
  rw [hj1] at h2 h3
  refine ⟨d, j1, i + j1, hd, by rw [hd]; exact IntWalk.wrap64_in _ (by omega), gdn, by simp; omega, hj1, h3, by omega, ?_, by omega, by omega⟩
  rw [show (i : Int) + (j1 : Int) = ((i + j1 : Nat) : Int) by omega]
  exact IntWalk.wrap64_in _ (by omega)
theorem idx_first {n : Int} (h0 : 0 ≤ n) {len : Nat} (hl : ¬ len = 0) : ∃ i : Nat, n % (len : Int) = (i : Int) ∧ n.tmod (len : Int) = (i : Int) ∧ i < len ∧ (0 : Int) < (len : Int) ∧ ¬ ((len : Int) = 0) ∧ ((len : Int) == 0) = false := by
  have gn : ¬ ((len : Int) = 0) := by omega
  have h1 := Int.emod_nonneg n gn
  have h2 := Int.emod_lt_of_pos n (show (0 : Int) < (len : Int) by omega)
  have h3 := Int.tmod_eq_emod_of_nonneg (b := (len : Int)) h0
  obtain ⟨i, hi⟩ : ∃ i : Nat, n % (len : Int) = (i : Int) := ⟨(n % (len : Int)).toNat, (Int.toNat_of_nonneg h1).symm⟩
  rw [hi] at h2 h3
  exact ⟨i, hi, h3, by omega, by omega, gn, by simp; omega⟩
set_option maxRecDepth 100000 in
theorem Arg.three {W : World} {t e : TypeId} {v : Value} {k : IntKind} (h : Arg W t v) (hu : Try.prog.underlying t = some (.array 3 e)) (he : Try.prog.underlying e = some (.int k)) (hc : Try.prog.cellsOf e = 1) (hs : Try.prog.cellsOf t = 3) :
    ∃ a b c, v = .agg #[.int k a, .int k b, .int k c] ∧ (Lit.int k a).wf = true ∧ (Lit.int k b).wf = true ∧ (Lit.int k c).wf = true := by
  obtain ⟨cs, rfl, hl, hcs⟩ := h.agg (.inr ⟨_, _, hu⟩)
  obtain ⟨_, hj⟩ := hcs.array hu
  rw [hs] at hl
  rw [hc] at hj
  match cs, hl with
  | [x, y, z], _ =>
    obtain ⟨a, e1, wa⟩ := (hj 0 (by omega)).int he
    obtain ⟨b, e2, wb⟩ := (hj 1 (by omega)).int he
    obtain ⟨c, e3, wc⟩ := (hj 2 (by omega)).int he
    simp at e1 e2 e3
    subst e1 e2 e3
    exact ⟨a, b, c, rfl, wa, wb, wc⟩
end Go.Proofs.Ytiidfffedoekiaa
