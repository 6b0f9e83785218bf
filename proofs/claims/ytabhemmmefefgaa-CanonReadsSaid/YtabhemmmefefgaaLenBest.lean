/- The lengths that packages say: full, and none cost less. -/
import Derived.Test.YtabhemmmefefgaaLenMath
namespace Go.Proofs.Ytabhemmmefefgaa.Len

theorem sumN_shift : ∀ (n : Nat) (f : Nat → Nat), sumN (n + 1) f = f 0 + sumN n fun i => f (i + 1)
  | 0, f => by simp [sumN]
  | n + 1, f => by
    rw [sumN, sumN_shift n f, sumN]
    omega
theorem sumN_sub {c : Nat} : ∀ (n : Nat) {g : Nat → Nat}, (∀ i, i < n → g i ≤ c) → sumN n (fun i => c - g i) + sumN n g = n * c
  | 0, _, _ => by simp [sumN]
  | n + 1, g, h => by
    rw [sumN, sumN, Nat.add_mul, Nat.one_mul]
    have := sumN_sub (c := c) n (g := g) fun i hi => h i (by omega)
    have := h n (by omega)
    omega
theorem pow_le_of {a b : Nat} (h : a ≤ b) : 2 ^ a ≤ 2 ^ b := Nat.pow_le_pow_right (by omega) h
section
variable {n r : Nat} {w s l : Nat → Nat}
/-- Lengths whose weight isn't too much have width enough. -/
theorem wide (hK : sumN n (fun i => 2 ^ (r + 1 - l i)) ≤ 2 ^ (r + 1)) : (2 * n - 2) * 2 ^ r ≤ sumN n fun i => 2 ^ (r + 1) - 2 ^ (r + 1 - l i) := by
  have h1 := sumN_sub (c := 2 ^ (r + 1)) n (g := fun i => 2 ^ (r + 1 - l i)) fun i _ => pow_le_of (by omega)
  have e : (2 * n - 2) * 2 ^ r = n * 2 ^ (r + 1) - 2 ^ (r + 1) := by
    rw [Nat.pow_succ, Nat.sub_mul]
    have : 2 * n * 2 ^ r = n * (2 ^ r * 2) := by rw [Nat.mul_comm 2 n, Nat.mul_assoc, Nat.mul_comm 2]
    omega
  omega
/-- How often the i-th symbol stands in the items that count. -/
def says (n : Nat) (w s : Nat → Nat) (r i : Nat) : Nat := (syms ((row (leaves n w s) r).take (2 * n - 2))).count (s i)
/-- What the lengths are like. -/
structure Fine (n r : Nat) (w s : Nat → Nat) : Prop where
  enough : 2 * n - 2 ≤ (row (leaves n w s) r).length
  pos : ∀ i, i < n → 1 ≤ says n w s r i
  top : ∀ i, i < n → says n w s r i ≤ r + 1
  anti : ∀ i j, i ≤ j → j < n → says n w s r j ≤ says n w s r i
  full : sumN n (fun i => 2 ^ (r + 1 - says n w s r i)) = 2 ^ (r + 1)
  none : ∀ x, (∀ i, i < n → s i ≠ x) → (syms ((row (leaves n w s) r).take (2 * n - 2))).count x = 0
  best : ∀ l : Nat → Nat, (∀ i, i < n → l i ≤ r + 1) → sumN n (fun i => 2 ^ (r + 1 - l i)) ≤ 2 ^ (r + 1) → sumN n (fun i => w i * says n w s r i) ≤ sumN n fun i => w i * l i
theorem fine (hn : 2 ≤ n) (hnr : n ≤ 2 ^ (r + 1)) (hw : ∀ i j, i ≤ j → j < n → w i ≤ w j) (hw0 : 1 ≤ w 0) (hs : ∀ i j, i < n → j < n → s i = s j → i = j) : Fine n r w s := by
  have h0 := row_least (s := s) hw r (2 * n - 2) (fun _ => r + 1) (fun _ _ => Nat.le_refl _) (wide (by
    rw [sumN_congr (g := fun _ => 1) (fun i _ => by rw [Nat.sub_self, Nat.pow_zero]), sumN_const]
    omega))
  obtain ⟨c, wd, h1, h2, h3, h4, h5, h6⟩ := row_says (w := w) hs r (2 * n - 2) h0.1
  have hP : 0 < 2 ^ (r + 1) := Nat.pow_pos (by omega)
  have hbest : ∀ l : Nat → Nat, (∀ i, i < n → l i ≤ r + 1) → sumN n (fun i => 2 ^ (r + 1 - l i)) ≤ 2 ^ (r + 1) → sumN n (fun i => w i * c i) ≤ sumN n fun i => w i * l i := fun l hl hK => by
    rw [← h6]
    exact (row_least hw r (2 * n - 2) l hl (wide hK)).2
  -- the weight isn't too much
  have hle : sumN n (fun i => 2 ^ (r + 1 - c i)) ≤ 2 ^ (r + 1) := by
    have k1 : sumN n (fun i => wd i + 2 ^ (r + 1 - c i)) ≤ sumN n fun _ => 2 ^ (r + 1) := sumN_le fun i hi => (h3 i hi).2
    rw [sumN_add, h5, sumN_const] at k1
    have e : (2 * n - 2) * 2 ^ r = n * 2 ^ (r + 1) - 2 ^ (r + 1) := by
      rw [Nat.pow_succ, Nat.sub_mul]
      have : 2 * n * 2 ^ r = n * (2 ^ r * 2) := by rw [Nat.mul_comm 2 n, Nat.mul_assoc, Nat.mul_comm 2]
      omega
    have : 1 * 2 ^ (r + 1) ≤ n * 2 ^ (r + 1) := Nat.mul_le_mul_right _ (by omega)
    omega
  obtain ⟨k, rfl⟩ : ∃ k, n = k + 2 := ⟨n - 2, by omega⟩
  have hlast : 1 ≤ c (k + 1) := by
    rcases Nat.eq_zero_or_pos (c (k + 1)) with e | e
    · rw [sumN, e, Nat.sub_zero] at hle
      have : sumN (k + 1) (fun _ => 1) ≤ sumN (k + 1) fun i => 2 ^ (r + 1 - c i) := sumN_le fun i _ => Nat.pow_pos (by omega)
      rw [sumN_const] at this
      omega
    · exact e
  have hpos : ∀ i, i < k + 2 → 1 ≤ c i := fun i hi => Nat.le_trans hlast (h4 i (k + 1) (by omega) (by omega))
  have hfull : sumN (k + 2) (fun i => 2 ^ (r + 1 - c i)) = 2 ^ (r + 1) := by
    rcases Nat.lt_or_ge (sumN (k + 2) fun i => 2 ^ (r + 1 - c i)) (2 ^ (r + 1)) with hlt | hge
    · exfalso
      have hc0 := h3 0 (by omega)
      have hc1 := hpos 0 (by omega)
      by_cases h1' : c 0 = 1
      · have : sumN (k + 2) (fun _ => 2 ^ r) ≤ sumN (k + 2) fun i => 2 ^ (r + 1 - c i) := sumN_le fun i hi => by
          have := h4 0 i (by omega) hi
          exact pow_le_of (by omega)
        rw [sumN_const] at this
        have h2' : 2 * 2 ^ r ≤ (k + 2) * 2 ^ r := Nat.mul_le_mul_right _ (by omega)
        rw [Nat.pow_succ] at hlt
        omega
      · -- one bit less for the first symbol
        have hdiv : sumN (k + 2) (fun i => 2 ^ (r + 1 - c i)) = 2 ^ (r + 1 - c 0) * sumN (k + 2) fun i => 2 ^ (c 0 - c i) := by
          rw [← sumN_mul]
          refine sumN_congr fun i hi => ?_
          have := h4 0 i (by omega) hi
          rw [← Nat.pow_add]
          congr 1
          omega
        have hpw : 2 ^ (r + 1) = 2 ^ (r + 1 - c 0) * 2 ^ c 0 := by
          rw [← Nat.pow_add]
          congr 1
          omega
        have hroom : sumN (k + 2) (fun i => 2 ^ (r + 1 - c i)) + 2 ^ (r + 1 - c 0) ≤ 2 ^ (r + 1) := by
          rw [hdiv, hpw] at hlt ⊢
          have := Nat.lt_of_mul_lt_mul_left hlt
          rw [← Nat.mul_succ]
          exact Nat.mul_le_mul_left _ this
        have hlow := hbest (fun i => if i = 0 then c 0 - 1 else c i) (fun i hi => by
          have := (h3 i hi).1
          split <;> omega) (by
          rw [sumN_shift] at hroom ⊢
          simp only [if_false, if_true, Nat.add_one_ne_zero]
          have e : 2 ^ (r + 1 - (c 0 - 1)) = 2 ^ (r + 1 - c 0) + 2 ^ (r + 1 - c 0) := by
            rw [show r + 1 - (c 0 - 1) = (r + 1 - c 0) + 1 by omega, Nat.pow_succ]
            omega
          omega)
        rw [sumN_shift, sumN_shift (k + 1) fun i => w i * if i = 0 then c 0 - 1 else c i] at hlow
        simp only [Nat.add_one_ne_zero, if_false, if_true] at hlow
        have e : w 0 * c 0 = w 0 * (c 0 - 1) + w 0 := by
          rw [← Nat.mul_succ]
          congr 1
          omega
        omega
    · omega
  have hsay : ∀ i, i < k + 2 → says (k + 2) w s r i = c i := fun i hi => h1 i hi
  refine ⟨h0.1, fun i hi => by rw [hsay i hi]; exact hpos i hi, fun i hi => by rw [hsay i hi]; exact (h3 i hi).1, fun i j hij hj => by rw [hsay i (by omega), hsay j hj]; exact h4 i j hij hj, ?_, h2, fun l hl hK => ?_⟩
  · rw [sumN_congr (g := fun i => 2 ^ (r + 1 - c i)) (fun i hi => by rw [hsay i hi])]
    exact hfull
  · rw [sumN_congr (g := fun i => w i * c i) (fun i hi => by rw [hsay i hi])]
    exact hbest l hl hK
/-- A greater limit costs no more. -/
theorem fine_more (h : Fine n r w s) (h' : Fine n (r + 1) w s) : sumN n (fun i => w i * says n w s (r + 1) i) ≤ sumN n fun i => w i * says n w s r i :=
  h'.best _ (fun i hi => Nat.le_succ_of_le (h.top i hi)) (by
    rw [sumN_congr (g := fun i => 2 * 2 ^ (r + 1 - says n w s r i)) (fun i hi => by
      have := h.top i hi
      rw [show r + 1 + 1 - says n w s r i = (r + 1 - says n w s r i) + 1 by omega, Nat.pow_succ, Nat.mul_comm]), sumN_mul, h.full, Nat.pow_succ 2 (r + 1)]
    omega)
end
end Go.Proofs.Ytabhemmmefefgaa.Len
