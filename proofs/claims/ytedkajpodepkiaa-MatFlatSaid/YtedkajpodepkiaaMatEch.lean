/- Rows that are taken one by one where they are no sum of those before: plain mathematics. -/
import Derived.Test.YtedkajpodepkiaaMatRank
namespace Go.Proofs.Ytedkajpodepkiaa
open Go.RowKit

namespace Mat
/-- Each row has a first place that is not 0; all later ones are 0 there. -/
structure Ech (c r : Nat) (T : M) (l : Nat → Nat) : Prop where
  lt : ∀ k, k < r → l k < c
  ne : ∀ k, k < r → T k (l k) ≠ 0
  low : ∀ k, k < r → ∀ j, j < l k → T k j = 0
  zero : ∀ k k', k < k' → k' < r → T k' (l k) = 0
/-- Of the first i rows of A these are taken. -/
structure Taken (m c i : Nat) (A T : M) (l : Nat → Nat) (r : Nat) : Prop where
  ech : Ech c r T l
  of : ∀ k, k < r → InSpan m c A (T k)
  all : ∀ a, a < i → InSpan r c T (A a)
theorem Taken.start (m c : Nat) (A T : M) (l : Nat → Nat) : Taken m c 0 A T l 0 :=
  ⟨⟨fun _ h => absurd h (by omega), fun _ h => absurd h (by omega), fun _ h => absurd h (by omega), fun _ _ _ h => absurd h (by omega)⟩, fun _ h => absurd h (by omega), fun _ h => absurd h (by omega)⟩
theorem Taken.done {m c r : Nat} {A T : M} {l : Nat → Nat} (h : Taken m c m A T l r) : HasRank m c A r :=
  ⟨T, Indep.of_leads l h.ech.lt h.ech.ne h.ech.zero, h.of, h.all⟩
/-- R is the row v, less some of the first k taken ones, and 0 at their first places. -/
def Less (c k : Nat) (T : M) (l : Nat → Nat) (v R : Nat → UInt8) : Prop := (∃ x, ∀ j, j < c → R j = v j ^^^ comb k x T j) ∧ ∀ a, a < k → R (l a) = 0
theorem Less.start (c : Nat) (T : M) (l : Nat → Nat) (v : Nat → UInt8) : Less c 0 T l v v := ⟨⟨fun _ => 0, fun j _ => (UInt8.xor_zero).symm⟩, fun _ h => absurd h (by omega)⟩
theorem Less.step {c k r : Nat} {T : M} {l : Nat → Nat} {v R : Nat → UInt8} (h : Less c k T l v R) (he : Ech c r T l) (hk : k < r) : Less c (k + 1) T l v (fun j => R j ^^^ fm (fm (R (l k)) (fi (T k (l k)))) (T k j)) := by
  obtain ⟨⟨x, hx⟩, hz⟩ := h
  refine ⟨⟨fun a => if a = k then fm (R (l k)) (fi (T k (l k))) else x a, fun j hj => ?_⟩, fun a ha => ?_⟩
  · have e : comb (k + 1) (fun a => if a = k then fm (R (l k)) (fi (T k (l k))) else x a) T j = comb k x T j ^^^ fm (fm (R (l k)) (fi (T k (l k)))) (T k j) := by
      unfold comb
      rw [sum]
      dsimp only
      rw [if_pos rfl, sum_congr (g := fun a => fm (x a) (T a j)) fun a ha => by rw [if_neg (by omega)]]
    show R j ^^^ _ = _
    rw [e, hx j hj, UInt8.xor_assoc]
  · show R (l a) ^^^ fm (fm (R (l k)) (fi (T k (l k)))) (T k (l a)) = 0
    by_cases hak : a = k
    · rw [hak, fm_assoc, fi_fm (he.ne k hk), fm_one, UInt8.xor_self]
    · rw [hz a (by omega), he.zero a k (by omega) hk, fm_zero]
      rfl
theorem InSpan.more {r c : Nat} {T T' : M} {v : Nat → UInt8} (h : InSpan r c T v) (hT : ∀ k, k < r → T' k = T k) : InSpan (r + 1) c T' v := by
  obtain ⟨x, hx⟩ := h
  refine ⟨fun a => if a = r then 0 else x a, fun j hj => ?_⟩
  unfold comb
  rw [sum]
  dsimp only
  rw [if_pos rfl, zero_fm, UInt8.xor_zero, hx j hj]
  exact sum_congr fun a ha => by rw [if_neg (by omega), hT a ha]
theorem comb_last (r : Nat) (x : Nat → UInt8) (T : M) (v : Nat → UInt8) (j : Nat) : comb (r + 1) (fun a => if a = r then 1 else x a) (fun a => if a = r then v else T a) j = comb r x T j ^^^ v j := by
  unfold comb
  rw [sum]
  dsimp only
  rw [if_pos rfl, if_pos rfl, one_fm, sum_congr (g := fun a => fm (x a) (T a j)) fun a ha => by rw [if_neg (by omega), if_neg (by omega)]]
/-- What is left is not 0: it is taken. -/
theorem Taken.push {m c i r f : Nat} {A T : M} {l : Nat → Nat} {R : Nat → UInt8} (h : Taken m c i A T l r) (hi : i < m) (hR : Less c r T l (A i) R) (hf : f < c) (hne : R f ≠ 0) (hlow : ∀ j, j < f → R j = 0) :
    Taken m c (i + 1) A (fun a => if a = r then R else T a) (fun a => if a = r then f else l a) (r + 1) := by
  obtain ⟨⟨x, hx⟩, hz⟩ := hR
  have hT : ∀ k, k < r → (fun a => if a = r then R else T a) k = T k := fun k hk => if_neg (by omega)
  refine ⟨⟨fun k hk => ?_, fun k hk => ?_, fun k hk j hj => ?_, fun k k' hkk hk' => ?_⟩, fun k hk => ?_, fun a ha => ?_⟩
  · by_cases hkr : k = r
    · rw [if_pos hkr]; exact hf
    · rw [if_neg hkr]; exact h.ech.lt k (by omega)
  · by_cases hkr : k = r
    · rw [if_pos hkr, if_pos hkr]; exact hne
    · rw [if_neg hkr, if_neg hkr]; exact h.ech.ne k (by omega)
  · by_cases hkr : k = r
    · rw [if_pos hkr] at hj ⊢; exact hlow j hj
    · rw [if_neg hkr] at hj ⊢; exact h.ech.low k (by omega) j hj
  · rw [if_neg (show ¬ k = r by omega)]
    by_cases hkr : k' = r
    · rw [if_pos hkr]; exact hz k (by omega)
    · rw [if_neg hkr]; exact h.ech.zero k k' hkk (by omega)
  · by_cases hkr : k = r
    · rw [if_pos hkr]
      have h1 : InSpan (r + 1) c (fun a => if a = r then A i else T a) R := ⟨fun a => if a = r then 1 else x a, fun j hj => by rw [comb_last, hx j hj, UInt8.xor_comm]⟩
      refine h1.trans fun a ha => ?_
      by_cases har : a = r
      · rw [if_pos har]; exact InSpan.self A hi
      · rw [if_neg har]; exact h.of a (by omega)
    · rw [if_neg hkr]; exact h.of k (by omega)
  · by_cases hai : a = i
    · subst hai
      refine ⟨fun b => if b = r then 1 else x b, fun j hj => ?_⟩
      rw [comb_last, hx j hj, UInt8.xor_comm (A a j), ← UInt8.xor_assoc, UInt8.xor_self, UInt8.zero_xor]
    · exact (h.all a (by omega)).more hT
/-- Nothing is left. -/
theorem Taken.stay {m c i r : Nat} {A T : M} {l : Nat → Nat} {R : Nat → UInt8} (h : Taken m c i A T l r) (hR : Less c r T l (A i) R) (h0 : ∀ j, j < c → R j = 0) : Taken m c (i + 1) A T l r := by
  obtain ⟨⟨x, hx⟩, _⟩ := hR
  refine ⟨h.ech, h.of, fun a ha => ?_⟩
  by_cases hai : a = i
  · subst hai
    refine ⟨x, fun j hj => ?_⟩
    have := hx j hj
    rw [h0 j hj] at this
    exact xor_eq_zero this.symm
  · exact h.all a (by omega)
/-- The rank. -/
noncomputable def rankOf (m c : Nat) (A : M) : Nat := @dite _ (∃ r, HasRank m c A r) (Classical.propDecidable _) (fun h => h.choose) (fun _ => 0)
theorem Less.all {c r : Nat} {T : M} {l : Nat → Nat} (he : Ech c r T l) (v : Nat → UInt8) : ∀ k, k ≤ r → ∃ R, Less c k T l v R
  | 0, _ => ⟨v, Less.start c T l v⟩
  | k + 1, hk => by
    obtain ⟨R, hR⟩ := Less.all he v k (by omega)
    exact ⟨_, hR.step he (by omega)⟩
theorem least {p : Nat → Prop} (n : Nat) : (∃ f, f < n ∧ p f ∧ ∀ j, j < f → ¬ p j) ∨ ∀ j, j < n → ¬ p j := by
  induction n with
  | zero => exact .inr fun j hj => absurd hj (by omega)
  | succ n ih =>
    rcases ih with ⟨f, h1, h2, h3⟩ | h
    · exact .inl ⟨f, by omega, h2, h3⟩
    · by_cases hp : p n
      · exact .inl ⟨n, by omega, hp, h⟩
      · refine .inr fun j hj => ?_
        by_cases hjn : j = n
        · rw [hjn]; exact hp
        · exact h j (by omega)
theorem Taken.total (m c : Nat) (A : M) : ∀ i, i ≤ m → ∃ r T l, Taken m c i A T l r
  | 0, _ => ⟨0, fun _ _ => 0, fun _ => 0, Taken.start m c A _ _⟩
  | i + 1, hi => by
    obtain ⟨r, T, l, h⟩ := Taken.total m c A i (by omega)
    obtain ⟨R, hR⟩ := Less.all h.ech (A i) r (Nat.le_refl _)
    rcases least (p := fun j => R j ≠ 0) c with ⟨f, h1, h2, h3⟩ | h0
    · exact ⟨r + 1, _, _, h.push (by omega) hR h1 h2 fun j hj => Decidable.of_not_not (h3 j hj)⟩
    · exact ⟨r, T, l, h.stay hR fun j hj => Decidable.of_not_not (h0 j hj)⟩
theorem rankOf_spec (m c : Nat) (A : M) : HasRank m c A (rankOf m c A) := by
  obtain ⟨r, T, l, h⟩ := Taken.total m c A m (Nat.le_refl _)
  have he : ∃ r, HasRank m c A r := ⟨r, h.done⟩
  unfold rankOf
  rw [dif_pos he]
  exact he.choose_spec
theorem rankOf_of {m c r : Nat} {A : M} (h : HasRank m c A r) : rankOf m c A = r := by
  have he : ∃ r, HasRank m c A r := ⟨r, h⟩
  unfold rankOf
  rw [dif_pos he]
  exact he.choose_spec.only h
end Mat
end Go.Proofs.Ytedkajpodepkiaa
