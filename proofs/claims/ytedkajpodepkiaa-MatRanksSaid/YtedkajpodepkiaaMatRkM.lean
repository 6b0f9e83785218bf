/- The rank by columns, one leading row each: plain mathematics. -/
import Derived.Test.YtedkajpodepkiaaMatEch
import Derived.Test.YtedkajpodepkiaaMatPLead
namespace Go.Proofs.Ytedkajpodepkiaa
open Go.RowKit

namespace Mat
theorem InSpan.lin {n c : Nat} {T : M} {v u : Nat → UInt8} (hv : InSpan n c T v) (hu : InSpan n c T u) (d : UInt8) : InSpan n c T (fun j => v j ^^^ fm d (u j)) := by
  obtain ⟨x, hx⟩ := hv
  obtain ⟨y, hy⟩ := hu
  refine ⟨fun k => x k ^^^ fm d (y k), fun j hj => ?_⟩
  show v j ^^^ fm d (u j) = _
  rw [hx j hj, hy j hj]
  unfold comb
  rw [← sum_fm, ← sum_xor]
  exact sum_congr fun k _ => by rw [xor_fm, fm_assoc]
theorem InSpan.zero (n c : Nat) (T : M) : InSpan n c T (fun _ => 0) := ⟨fun _ => 0, fun j _ => (sum_zero n fun k _ => by rw [zero_fm]).symm⟩
theorem InSpan.same {n c : Nat} {T : M} {v u : Nat → UInt8} (hv : InSpan n c T v) (h : ∀ j, j < c → u j = v j) : InSpan n c T u := by
  obtain ⟨x, hx⟩ := hv
  exact ⟨x, fun j hj => (h j hj).trans (hx j hj)⟩
/-- The first col columns are done: l rows lead. -/
structure Rk (m c col : Nat) (A F : M) (l : Nat) (piv : Nat → Nat) : Prop where
  le : l ≤ m
  of : ∀ i, i < m → InSpan m c A (F i)
  all : ∀ i, i < m → InSpan m c F (A i)
  lt : ∀ k, k < l → piv k < col
  one : ∀ k, k < l → F k (piv k) = 1
  zero : ∀ k, k < l → ∀ a, a < m → a ≠ k → F a (piv k) = 0
  low : ∀ a, a < m → l ≤ a → ∀ j, j < col → F a j = 0
theorem Rk.start (m c : Nat) (A : M) : Rk m c 0 A A 0 (fun _ => 0) :=
  ⟨by omega, fun _ hi => InSpan.self A hi, fun _ hi => InSpan.self A hi, fun _ h => absurd h (by omega), fun _ h => absurd h (by omega), fun _ h => absurd h (by omega), fun _ _ _ _ h => absurd h (by omega)⟩
theorem Rk.stay {m c col : Nat} {A F : M} {l : Nat} {piv : Nat → Nat} (h : Rk m c col A F l piv) (h0 : ∀ q, l ≤ q → q < m → F q col = 0) : Rk m c (col + 1) A F l piv :=
  ⟨h.le, h.of, h.all, fun k hk => Nat.lt_succ_of_lt (h.lt k hk), h.one, h.zero, fun a ha hla j hj => by
    by_cases hjc : j < col
    · exact h.low a ha hla j hjc
    · obtain rfl : j = col := by omega
      exact h0 a hla ha⟩
theorem Rk.step {m c col : Nat} {A F : M} {l : Nat} {piv : Nat → Nat} (h : Rk m c col A F l piv) {p : Nat} (hlp : l ≤ p) (hp : p < m) (h0 : F p col ≠ 0) :
    Rk m c (col + 1) A (clearTo l col m (leadS l p col F)) (l + 1) (fun k => if k = l then col else piv k) := by
  have hlm : l < m := by omega
  have hsl : sw l p l = p := if_pos rfl
  -- the leading row
  have hL : ∀ j, clearTo l col m (leadS l p col F) l j = fm (fi (F p col)) (F p j) := fun j => by
    unfold clearTo leadS
    rw [if_neg (by omega), if_pos rfl, hsl]
  have hLc : clearTo l col m (leadS l p col F) l col = 1 := by rw [hL, fi_fm h0]
  have hLow : ∀ j, j < col → clearTo l col m (leadS l p col F) l j = 0 := fun j hj => by rw [hL, h.low p hp hlp j hj, fm_zero]
  -- the others
  have hO : ∀ a, a < m → a ≠ l → ∀ j, clearTo l col m (leadS l p col F) a j = F (sw l p a) j ^^^ fm (F (sw l p a) col) (clearTo l col m (leadS l p col F) l j) := fun a ha hal j => by
    rw [hL]
    unfold clearTo leadS
    rw [if_pos ⟨ha, hal⟩, if_neg hal, if_neg hal, if_pos rfl, hsl]
  have hOc : ∀ a, a < m → a ≠ l → clearTo l col m (leadS l p col F) a col = 0 := fun a ha hal => by rw [hO a ha hal, hLc, fm_one, UInt8.xor_self]
  have hOj : ∀ a, a < m → a ≠ l → ∀ j, j < col → clearTo l col m (leadS l p col F) a j = F (sw l p a) j := fun a ha hal j hj => by rw [hO a ha hal, hLow j hj, fm_zero, UInt8.xor_zero]
  have hsm : ∀ a, a < l → sw l p a = a := fun a ha => by
    unfold sw
    rw [if_neg (by omega), if_neg (by omega)]
  have hbig : ∀ a, a < m → l < a → l ≤ sw l p a := fun a _ hla => by
    unfold sw
    rw [if_neg (by omega)]
    by_cases hap : a = p
    · rw [if_pos hap]; exact Nat.le_refl _
    · rw [if_neg hap]; omega
  have hslt : ∀ a, a < m → sw l p a < m := fun a ha => sw_lt hlm hp ha
  -- sums
  have s1 : ∀ a, a < m → InSpan m c F (clearTo l col m (leadS l p col F) a) := fun a ha => by
    have hLs : InSpan m c F (fun j => (fun _ => (0 : UInt8)) j ^^^ fm (fi (F p col)) (F p j)) := (InSpan.zero m c F).lin (InSpan.self F hp) _
    by_cases hal : a = l
    · subst hal
      exact hLs.same fun j _ => by rw [hL]; simp
    · have := (InSpan.self (c := c) F (hslt a ha)).lin hLs (F (sw l p a) col)
      exact this.same fun j _ => by rw [hO a ha hal, hL]; simp
  have hself := fun a (ha : a < m) => InSpan.self (c := c) (clearTo l col m (leadS l p col F)) ha
  have s2 : ∀ q, q < m → InSpan m c (clearTo l col m (leadS l p col F)) (F q) := fun q hq => by
    by_cases hqp : q = p
    · subst hqp
      have := (InSpan.zero m c (clearTo l col m (leadS l q col F))).lin (hself l hlm) (F q col)
      exact this.same fun j _ => by
        rw [hL, ← fm_assoc, fm_fi h0, one_fm]
        simp
    · have hal : sw l p q ≠ l := fun e => hqp (by rw [← sw_sw l p q, e, hsl])
      have := (hself (sw l p q) (hslt q hq)).lin (hself l hlm) (F q col)
      exact this.same fun j _ => by
        rw [hO _ (hslt q hq) hal, sw_sw, UInt8.xor_assoc, UInt8.xor_self, UInt8.xor_zero]
  refine ⟨by omega, fun i hi => (s1 i hi).trans h.of, fun i hi => (h.all i hi).trans s2, fun k hk => ?_, fun k hk => ?_, fun k hk a ha hak => ?_, fun a ha hla j hj => ?_⟩
  · by_cases hkl : k = l
    · rw [if_pos hkl]; omega
    · rw [if_neg hkl]
      have := h.lt k (by omega)
      omega
  · by_cases hkl : k = l
    · rw [if_pos hkl, hkl, hLc]
    · rw [if_neg hkl, hOj k (by omega) hkl _ (h.lt k (by omega)), hsm k (by omega), h.one k (by omega)]
  · by_cases hkl : k = l
    · rw [if_pos hkl]
      exact hOc a ha (by omega)
    · rw [if_neg hkl]
      have hpk := h.lt k (by omega)
      by_cases hal : a = l
      · rw [hal, hLow _ hpk]
      · rw [hOj a ha hal _ hpk]
        by_cases hlt : a < l
        · rw [hsm a hlt]
          exact h.zero k (by omega) a ha hak
        · exact h.low _ (hslt a ha) (hbig a ha (by omega)) _ hpk
  · by_cases hjc : j < col
    · rw [hOj a ha (by omega) j hjc]
      exact h.low _ (hslt a ha) (hbig a ha (by omega)) _ hjc
    · obtain rfl : j = col := by omega
      exact hOc a ha (by omega)
theorem Rk.done {m c : Nat} {A F : M} {l : Nat} {piv : Nat → Nat} (h : Rk m c c A F l piv) : HasRank m c A l := by
  refine ⟨F, Indep.of_leads piv (fun k hk => h.lt k hk) (fun k hk => by rw [h.one k hk]; exact one_ne) (fun k k' hkk hk' => h.zero k (by omega) k' (Nat.lt_of_lt_of_le hk' h.le) (by omega)), fun i hi => h.of i (Nat.lt_of_lt_of_le hi h.le), fun i hi => ?_⟩
  refine (h.all i hi).trans fun k hk => ?_
  by_cases hkl : k < l
  · exact InSpan.self F hkl
  · exact (InSpan.zero l c F).same fun j hj => h.low k hk (by omega) j hj
theorem rankOf_none {m c : Nat} (A : M) (h : m * c = 0) : rankOf m c A = 0 := by
  refine rankOf_of ⟨fun _ _ => 0, fun _ _ k hk => absurd hk (by omega), fun i hi => absurd hi (by omega), fun i hi => ⟨fun _ => 0, fun j hj => ?_⟩⟩
  rcases Nat.mul_eq_zero.1 h with h1 | h1 <;> omega
end Mat
end Go.Proofs.Ytedkajpodepkiaa
