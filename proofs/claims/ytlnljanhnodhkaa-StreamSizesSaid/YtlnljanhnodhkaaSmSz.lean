/- One record: as long as it says, and cut by a block. -/
import Derived.Test.YtlnljanhnodhkaaK3
namespace Go.Proofs.Ytlnljanhnodhkaa
open Go.RowKit Go.Shelf
set_option linter.unusedVariables false
theorem orIsL {W : World} {f c : Int} (hf : 0 ≤ f ∧ f ≤ 64) (hc : 1 ≤ c ∧ c ≤ 1000) : RcIs W (orR f c) (orZ f c) :=
  ⟨rfl, rfl, rfl, Sl.nil _ _, ⟨i64_small (by show _ ∧ _; simp only [orZ]; omega), i64_small (by show _ ∧ _; simp only [orZ]; omega), isBytes_nil⟩⟩
def szR (f c : Int) (d : List Int) : RC := ⟨f, c, false, d⟩
theorem szIs {W : World} {f c : Int} {v : SlV} {d : List Int} (hf : 0 ≤ f ∧ f ≤ 64) (hc : 1 ≤ c ∧ c ≤ 64) (hd : Sl .u8 W (slV v) d) (hb : IsBytes d) : RcIs W (f, c, false, v) (szR f c d) :=
  ⟨rfl, rfl, rfl, hd, ⟨i64_small (by show _ ∧ _; simp only [szR]; omega), i64_small (by show _ ∧ _; simp only [szR]; omega), hb⟩⟩
theorem sz_good {n f : Int} {k : Nat} (hn : 1 ≤ n ∧ n ≤ 64) (hf : 0 ≤ f) (hk : 1 ≤ k) (h : f + k ≤ n) : sGood ⟨n, -1, 2, [szR f k (List.replicate (64 * k) 3)]⟩ := by
  refine ⟨(⟨hn.1, hn.2, by omega, by omega, .inl rfl⟩ : hdOk n (-1) 2), fun j x hx => ?_⟩
  match j with
  | 0 =>
    cases hx
    refine ⟨⟨hf, by show f ≤ n - 1; omega, by show 1 ≤ (k : Int); omega, by show (k : Int) ≤ n - f; omega⟩, (fun e => by cases e), fun _ => ⟨by simp [szR]; omega, fun i hi => chunk_rep (by decide) k i (by simp only [szR] at hi; omega)⟩⟩
  | j + 1 => cases hx
theorem sz_bad {n f : Int} {k : Nat} {d : List Int} (hd : d.length ≠ 64 * k) : ¬ sGood ⟨n, -1, 2, [szR f k d]⟩ := fun h => by
  have := h.data (k := 0) (x := szR f k d) rfl
  simp only [szR] at this
  simp at this
  omega
theorem sz_sm {W : World} {b a : Int} {x : SlV} {r : List RV} {l : List RC} (hb : 1 ≤ b ∧ b ≤ 64) (ha : -1 ≤ a ∧ a ≤ 1) (h : RcR W (slV x) r l) : Smi W (smV b a 2 x) ⟨b, a, 2, l⟩ :=
  ⟨r, ⟨⟨_, rfl, h⟩, i64_small (n := b) (by omega), i64_small (n := a) (by omega), i64_small (n := 2) (by decide)⟩⟩
theorem sz_len1 {n f c : Int} : (encB ⟨n, 1, 2, [orZ f c]⟩).length = 46 := by rw [encB_length]; simp [rsLen, orZ]
theorem sz_len2 {n f : Int} {k : Nat} : (encB ⟨n, -1, 2, [szR f k (List.replicate (64 * k) 3)]⟩).length = 46 + 64 * k := by rw [encB_length]; simp [rsLen, szR]; omega
theorem rep_app (k : Nat) : List.replicate (64 * k) (3 : Int) ++ List.replicate 64 3 = List.replicate (64 * (k + 1)) 3 := by rw [List.replicate_append_replicate]; congr 1
theorem sl_tail {W : World} {g n c K : Nat} {bs : List Int} (h : Sl .u8 W (.slice (some ⟨g, 0, none⟩) n c) bs) (hK : K ≤ n) : Sl .u8 W (.slice (some ⟨g, K, none⟩) (n - K) (c - K)) (bs.drop K) := by
  obtain ⟨a, cap, e, h1, h2, h3, h4⟩ := h
  cases e
  rcases h3 with rfl | ⟨b, off, e, h5, h6⟩
  · obtain rfl : K = 0 := by simpa using hK
    exact ⟨some ⟨g, 0, none⟩, c, rfl, h1, h2, .inl rfl, h4⟩
  · cases e
    have := Sl.at (k := .u8) (w := W) (b := g) (off := K) (cap := c - K) (bs := bs.drop K) (by rw [List.length_drop]; omega) (by omega) h5 (fun j hj => by
      rw [List.length_drop] at hj
      have := h6 (K + j) (by omega)
      rw [List.getElem?_drop]
      simpa using this)
    rwa [List.length_drop] at this
theorem sl_tail0 {W : World} {g n K : Nat} {bs : List Int} (h : Sl .u8 W (.slice (some ⟨g, 0, none⟩) n K) bs) (hK : K ≤ n) : Sl .u8 W (.slice (some ⟨g, 0, none⟩) (n - K) 0) (bs.drop K) := by
  obtain ⟨a, cap, e, h1, h2, h3, h4⟩ := h
  cases e
  obtain rfl : K = bs.length := by omega
  rw [List.drop_eq_nil_of_le (Nat.le_refl _), Nat.sub_self]
  exact ⟨_, 0, rfl, Nat.le_refl _, Nat.zero_le _, .inl rfl, fun e => by cases e⟩
end Go.Proofs.Ytlnljanhnodhkaa
