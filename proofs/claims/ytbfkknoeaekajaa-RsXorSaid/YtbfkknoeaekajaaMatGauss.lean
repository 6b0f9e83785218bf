/- Gauss' steps, and that they always end; ranks; Cauchy's matrices: plain mathematics. Gauss' steps on rows that have the identity's behind them: plain mathematics. -/
import Derived.Test.YtbfkknoeaekajaaMatMath
namespace Go.Proofs.Ytbfkknoeaekajaa
open Go.RowKit

namespace Mat
/-- Rows a and b change places. -/
def sw (a b k : Nat) : Nat := if k = a then b else if k = b then a else k
theorem sw_sw (a b k : Nat) : sw a b (sw a b k) = k := by
  unfold sw
  split <;> split <;> simp_all
theorem sw_lt {a b k n : Nat} (ha : a < n) (hb : b < n) (hk : k < n) : sw a b k < n := by
  unfold sw
  split
  · exact hb
  · split
    · exact ha
    · exact hk
theorem Gs.swap {n a b : Nat} {A L X : M} (h : Gs n A L X) (ha : a < n) (hb : b < n) : Gs n A (fun i => L (sw a b i)) (fun i => X (sw a b i)) := by
  have hP : ∀ (B : M) i j, i < n → mm n (fun i k => one (sw a b i) k) B i j = B (sw a b i) j := fun B i j hi => one_mm B j (sw_lt ha hb hi)
  refine h.step (fun i k => one (sw a b i) k) (fun i k => one (sw a b i) k) (fun i j hi _ => ?_) (fun i j hi _ => (hP L i j hi).symm) (fun i j hi _ => (hP X i j hi).symm)
  rw [hP _ i j hi]
  show one (sw a b (sw a b i)) j = one i j
  rw [sw_sw]
/-- Row a is multiplied by c. -/
theorem Gs.scale {n a : Nat} {A L X : M} {c : UInt8} (h : Gs n A L X) (hc : c ≠ 0) : Gs n A (fun i j => if i = a then fm (L i j) c else L i j) (fun i j => if i = a then fm (X i j) c else X i j) := by
  have hP : ∀ (d : UInt8) (B : M) i j, i < n → mm n (fun i k => if i = k then (if i = a then d else 1) else 0) B i j = if i = a then fm (B i j) d else B i j := fun d B i j hi => by
    show sum n (fun k => fm (if i = k then (if i = a then d else 1) else 0) (B k j)) = _
    rw [sum_one hi (fun k _ hk => by rw [if_neg (fun e => hk e.symm), zero_fm]), if_pos rfl]
    split
    · exact fm_comm _ _
    · exact one_fm _
  refine h.step (fun i k => if i = k then (if i = a then c else 1) else 0) (fun i k => if i = k then (if i = a then fi c else 1) else 0) (fun i j hi hj => ?_) (fun i j hi _ => (hP c L i j hi).symm) (fun i j hi _ => (hP c X i j hi).symm)
  rw [hP (fi c) _ i j hi, one]
  by_cases hij : i = j
  · subst hij
    by_cases hia : i = a
    · rw [if_pos hia, if_pos rfl, if_pos hia, if_pos rfl, fm_fi hc]
    · rw [if_neg hia, if_pos rfl, if_neg hia, if_pos rfl]
  · rw [if_neg hij, if_neg hij, zero_fm, ite_self]
/-- To row b row a is added, times d. -/
theorem Gs.add {n a b : Nat} {A L X : M} {d : UInt8} (h : Gs n A L X) (ha : a < n) (hab : b ≠ a) : Gs n A (fun i j => if i = b then L i j ^^^ fm d (L a j) else L i j) (fun i j => if i = b then X i j ^^^ fm d (X a j) else X i j) := by
  have hP : ∀ (B : M) i j, i < n → mm n (fun i k => one i k ^^^ (if i = b then (if k = a then d else 0) else 0)) B i j = if i = b then B i j ^^^ fm d (B a j) else B i j := fun B i j hi => by
    have e : mm n (fun i k => one i k ^^^ (if i = b then (if k = a then d else 0) else 0)) B i j = sum n (fun k => fm (one i k) (B k j) ^^^ fm (if i = b then (if k = a then d else 0) else 0) (B k j)) := sum_congr fun k _ => xor_fm _ _ _
    have e1 : sum n (fun k => fm (one i k) (B k j)) = B i j := one_mm B j hi
    rw [e, sum_xor, e1]
    by_cases hib : i = b
    · rw [if_pos hib]
      have e2 : sum n (fun k => fm (if i = b then (if k = a then d else 0) else 0) (B k j)) = fm d (B a j) := by
        rw [sum_one ha (fun k _ hk => by rw [if_pos hib, if_neg hk, zero_fm]), if_pos hib, if_pos rfl]
      rw [e2]
    · rw [if_neg hib, sum_zero n (fun k _ => by rw [if_neg hib, zero_fm]), UInt8.xor_zero]
  refine h.step _ (fun i k => one i k ^^^ (if i = b then (if k = a then d else 0) else 0)) (fun i j hi hj => ?_) (fun i j hi _ => (hP L i j hi).symm) (fun i j hi _ => (hP X i j hi).symm)
  rw [hP _ i j hi]
  by_cases hib : i = b
  · rw [if_pos hib]
    show (one i j ^^^ (if i = b then (if j = a then d else 0) else 0)) ^^^ fm d (one a j ^^^ (if a = b then (if j = a then d else 0) else 0)) = one i j
    rw [if_pos hib, if_neg (show ¬ a = b from fun e => hab e.symm), UInt8.xor_zero]
    by_cases hja : j = a
    · have e : one a a = 1 := if_pos rfl
      rw [if_pos hja, hja, e, fm_one, UInt8.xor_assoc, UInt8.xor_self, UInt8.xor_zero]
    · have e : one a j = 0 := if_neg (fun e => hja e.symm)
      rw [if_neg hja, e, fm_zero, UInt8.xor_zero, UInt8.xor_zero]
  · rw [if_neg hib]
    show one i j ^^^ (if i = b then (if j = a then d else 0) else 0) = one i j
    rw [if_neg hib, UInt8.xor_zero]

/-! ### Any matrix has an inverse, or takes something to 0 -/
/-- Rows 0 to k, but row i, are cleared in column i. -/
theorem Gs.clear {n i : Nat} {A L X : M} (h : Gs n A L X) (hi : i < n) (h1 : L i i = 1) (hU : ∀ k j, k < n → j < i → L k j = one k j) : ∀ m, m ≤ n →
    ∃ L' X', Gs n A L' X' ∧ (∀ j, j < n → L' i j = L i j) ∧ (∀ k j, k < n → j < i → L' k j = one k j) ∧ ∀ k, k < m → L' k i = one k i
  | 0, _ => ⟨L, X, h, fun _ _ => rfl, hU, fun k hk => by omega⟩
  | m + 1, hm => by
    obtain ⟨L1, X1, g, a1, a2, a3⟩ := Gs.clear h hi h1 hU m (by omega)
    have hii : L1 i i = 1 := by rw [a1 i hi, h1]
    by_cases hmi : m = i
    · refine ⟨L1, X1, g, a1, a2, fun k hk => ?_⟩
      by_cases hkm : k < m
      · exact a3 k hkm
      · obtain rfl : k = i := by omega
        rw [hii, one, if_pos rfl]
    · refine ⟨_, _, g.add (d := L1 m i) hi hmi, fun j hj => ?_, fun k j hk hj => ?_, fun k hk => ?_⟩
      · show (if i = m then _ else L1 i j) = L i j
        rw [if_neg (fun e => hmi e.symm), a1 j hj]
      · show (if k = m then L1 k j ^^^ fm (L1 m i) (L1 i j) else L1 k j) = one k j
        have e0 : L1 i j = 0 := by rw [a2 i j hi hj, one, if_neg (by omega)]
        rw [e0, fm_zero, UInt8.xor_zero, ite_self, a2 k j hk hj]
      · show (if k = m then L1 k i ^^^ fm (L1 m i) (L1 i i) else L1 k i) = one k i
        by_cases hkm : k = m
        · rw [if_pos hkm, hii, fm_one, hkm, UInt8.xor_self, one, if_neg hmi]
        · rw [if_neg hkm, a3 k (by omega)]
theorem Gs.total {n : Nat} (A : M) : ∀ i, i ≤ n → (∃ v, Ker n A v) ∨ ∃ L X, Gs n A L X ∧ ∀ k j, k < n → j < i → L k j = one k j
  | 0, _ => .inr ⟨A, one, Gs.start n A (fun _ _ _ _ => rfl) (fun _ _ _ _ => rfl), fun k j _ hj => by omega⟩
  | i + 1, hi => by
    rcases Gs.total (n := n) A i (by omega) with h | ⟨L, X, g, hU⟩
    · exact .inl h
    by_cases hp : ∃ p, i ≤ p ∧ p < n ∧ L p i ≠ 0
    · obtain ⟨p, hip, hpn, hp0⟩ := hp
      have g1 := g.swap (a := i) (b := p) (by omega) hpn
      have hU1 : ∀ k j, k < n → j < i → L (sw i p k) j = one k j := fun k j hk hj => by
        rw [hU _ j (sw_lt (by omega) hpn hk) hj]
        unfold sw one
        by_cases h1 : k = i
        · rw [if_pos h1, if_neg (by omega), if_neg (by omega)]
        · rw [if_neg h1]
          by_cases h2 : k = p
          · rw [if_pos h2, if_neg (by omega), if_neg (by omega)]
          · rw [if_neg h2]
      have hii : L (sw i p i) i ≠ 0 := by
        unfold sw
        rw [if_pos rfl]
        exact hp0
      have hfi : fi (L (sw i p i) i) ≠ 0 := fun e => by
        have := fm_fi hii
        rw [e, fm_zero] at this
        exact one_ne this.symm
      have g2 := g1.scale (a := i) hfi
      obtain ⟨L3, X3, g3, a1, a2, a3⟩ := Gs.clear g2 (i := i) (by omega) (by show (if i = i then fm (L (sw i p i) i) (fi (L (sw i p i) i)) else _) = 1; rw [if_pos rfl, fm_fi hii])
        (fun k j hk hj => by
          show (if k = i then fm (L (sw i p k) j) _ else L (sw i p k) j) = one k j
          rw [hU1 k j hk hj]
          by_cases hki : k = i
          · rw [if_pos hki, one, if_neg (by omega), zero_fm]
          · rw [if_neg hki]) n (Nat.le_refl _)
      refine .inr ⟨L3, X3, g3, fun k j hk hj => ?_⟩
      by_cases hji : j < i
      · exact a2 k j hk hji
      · obtain rfl : j = i := by omega
        exact a3 k hk
    · exact .inl (g.flat (i := i) (by omega) hU (fun p h1 h2 => Decidable.of_not_not fun h3 => hp ⟨p, h1, h2, h3⟩))
/-- Any matrix has an inverse, or takes something to 0. -/
theorem inv_or_ker (n : Nat) (A : M) : (∃ X, Inv n A X) ∨ ∃ v, Ker n A v := by
  rcases Gs.total (n := n) A n (Nat.le_refl _) with h | ⟨L, X, g, hU⟩
  · exact .inr h
  · exact .inl ⟨X, g.done fun i j hi hj => hU i j hi hj⟩
end Mat
end Go.Proofs.Ytbfkknoeaekajaa

namespace Go.Proofs.Ytbfkknoeaekajaa
open Go.RowKit

namespace Mat
theorem Gs.congr {n : Nat} {A L X L' X' : M} (h : Gs n A L X) (hL : ∀ i j, i < n → j < n → L' i j = L i j) (hX : ∀ i j, i < n → j < n → X' i j = X i j) : Gs n A L' X' := by
  obtain ⟨h1, E, h2⟩ := h
  exact ⟨fun i j hi hj => by rw [hL i j hi hj, h1 i j hi hj]; exact mm_congr (fun k hk => (hX i k hi hk).symm) (fun _ _ => rfl), E, fun i j hi hj => by rw [← h2 i j hi hj]; exact mm_congr (fun _ _ => rfl) (fun k hk => hX k j hk hj)⟩
/-- The rows with the identity's behind them. -/
def both (n : Nat) (A : M) : M := fun i j => if j < n then A i j else if j - n = i then 1 else 0
/-- The first i columns are cleared. -/
def Inner (n i : Nat) (A F : M) : Prop := Gs n A F (fun a b => F a (n + b)) ∧ ∀ a b, a < n → b < i → F a b = one a b
theorem Inner.start (n : Nat) (A : M) : Inner n 0 A (both n A) := by
  refine ⟨Gs.start n A (fun a b _ hb => if_pos hb) (fun a b _ hb => ?_), fun a b _ hb => absurd hb (by omega)⟩
  show (if n + b < n then A a (n + b) else if n + b - n = a then 1 else 0) = one a b
  rw [if_neg (by omega), Nat.add_sub_cancel_left]
  unfold one
  by_cases h : a = b
  · rw [if_pos h, if_pos h.symm]
  · rw [if_neg h, if_neg (fun e => h e.symm)]
theorem Inner.swap {n i p : Nat} {A F : M} (h : Inner n i A F) (hi : i < n) (hp : p < n) (hip : i ≤ p) : Inner n i A (fun a => F (sw i p a)) := by
  refine ⟨h.1.swap hi hp, fun k j hk hj => ?_⟩
  show F (sw i p k) j = one k j
  rw [h.2 _ j (sw_lt hi hp hk) hj]
  unfold sw one
  by_cases h1 : k = i
  · rw [if_pos h1, if_neg (by omega), if_neg (by omega)]
  · rw [if_neg h1]
    by_cases h2 : k = p
    · rw [if_pos h2, if_neg (by omega), if_neg (by omega)]
    · rw [if_neg h2]
theorem sw_here (i p : Nat) : sw i p i = p := if_pos rfl
theorem Inner.scale {n i : Nat} {A F : M} (h : Inner n i A F) (h0 : F i i ≠ 0) : Inner n i A (fun a b => if a = i then fm (F a b) (fi (F i i)) else F a b) ∧ (if i = i then fm (F i i) (fi (F i i)) else F i i) = 1 := by
  have hfi : fi (F i i) ≠ 0 := fun e => by
    have := fm_fi h0
    rw [e, fm_zero] at this
    exact one_ne this.symm
  refine ⟨⟨h.1.scale (a := i) hfi, fun k j hk hj => ?_⟩, by rw [if_pos rfl, fm_fi h0]⟩
  show (if k = i then fm (F k j) (fi (F i i)) else F k j) = one k j
  rw [h.2 k j hk hj]
  by_cases hki : k = i
  · rw [if_pos hki, one, if_neg (by omega), zero_fm]
  · rw [if_neg hki]
theorem Inner.add {n i k : Nat} {A F : M} (h : Inner n i A F) (hi : i < n) (h1 : F i i = 1) (hki : k ≠ i) (hc : ∀ a, a < k → F a i = one a i) :
    Inner n i A (fun a b => if a = k then F a b ^^^ fm (F k i) (F i b) else F a b) ∧ (if i = k then F i i ^^^ fm (F k i) (F i i) else F i i) = 1 ∧ ∀ a, a < k + 1 → (if a = k then F a i ^^^ fm (F k i) (F i i) else F a i) = one a i := by
  refine ⟨⟨h.1.add (d := F k i) hi hki, fun a b ha hb => ?_⟩, by rw [if_neg (fun e => hki e.symm), h1], fun a ha => ?_⟩
  · show (if a = k then F a b ^^^ fm (F k i) (F i b) else F a b) = one a b
    have e0 : F i b = 0 := by rw [h.2 i b hi hb, one, if_neg (by omega)]
    rw [e0, fm_zero, UInt8.xor_zero, ite_self, h.2 a b ha hb]
  · by_cases hak : a = k
    · rw [if_pos hak, h1, fm_one, hak, UInt8.xor_self, one, if_neg hki]
    · rw [if_neg hak, hc a (by omega)]
theorem Inner.next {n i : Nat} {A F : M} (h : Inner n i A F) (hc : ∀ a, a < n → F a i = one a i) : Inner n (i + 1) A F :=
  ⟨h.1, fun a b ha hb => by
    by_cases hbi : b < i
    · exact h.2 a b ha hbi
    · obtain rfl : b = i := by omega
      exact hc a ha⟩
theorem Inner.flat {n i : Nat} {A F : M} (h : Inner n i A F) (hi : i < n) (h0 : ∀ p, i ≤ p → p < n → F p i = 0) : ∃ v, Ker n A v := h.1.flat hi h.2 h0
theorem Inner.done {n : Nat} {A F : M} (h : Inner n n A F) : Inv n A (fun a b => F a (n + b)) := h.1.done h.2
theorem fi_toNat {a : UInt8} (h : a ≠ 0) : (fi a).toNat = Gf.inv a.toNat := by
  have h0 : a.toNat ≠ 0 := fun e => h (ext8 e)
  unfold fi
  rw [UInt8.toNat_ofNat', Nat.mod_eq_of_lt (Gf.inv_lt (lt a) h0)]
end Mat
end Go.Proofs.Ytbfkknoeaekajaa
