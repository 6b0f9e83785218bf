/- Bits of bytes, numbers of bits, runs of bits 0: plain mathematics. -/
import Derived.Test.YtabhemmmefefgaaOwn
namespace Go.Proofs.Ytabhemmmefefgaa
open Go.RowKit

namespace Bit
/-- Bit i of bytes, of each byte the highest first. -/
def at_ (l : List UInt8) (i : Nat) : Bool := (l.getD (i / 8) 0).toNat.testBit (7 - i % 8)
/-- n bits as a number, the highest first. -/
def val (f : Nat → Bool) : Nat → Nat
  | 0 => 0
  | n + 1 => 2 * val f n + (f n).toNat
/-- x in n bits. -/
def num (x n : Nat) : List Bool := (List.range n).map fun i => x.testBit (n - 1 - i)
/-- How many bits 0 stand ahead of the first 1 of n bits. -/
def zeros : Nat → (Nat → Bool) → Nat
  | 0, _ => 0
  | n + 1, f => if f 0 then 0 else 1 + zeros n fun i => f (i + 1)

theorem val_lt (f : Nat → Bool) : ∀ n, val f n < 2 ^ n
  | 0 => by simp [val]
  | n + 1 => by
    have := val_lt f n
    have hb : (f n).toNat ≤ 1 := by cases f n <;> simp
    rw [val, Nat.pow_succ]
    omega
theorem val_congr {f g : Nat → Bool} : ∀ n, (∀ i, i < n → f i = g i) → val f n = val g n
  | 0, _ => rfl
  | n + 1, h => by rw [val, val, val_congr n fun i hi => h i (by omega), h n (by omega)]
theorem val_add (f : Nat → Bool) (k : Nat) : ∀ m, val f (k + m) = val f k * 2 ^ m + val (fun i => f (k + i)) m
  | 0 => by simp [val]
  | m + 1 => by
    rw [← Nat.add_assoc, val, val, val_add f k m, Nat.pow_succ, Nat.mul_add]
    have : 2 * (val f k * 2 ^ m) = val f k * (2 ^ m * 2) := by rw [Nat.mul_comm 2, Nat.mul_assoc]
    omega
theorem testBit_toNat (x i : Nat) : (x.testBit i).toNat = x / 2 ^ i % 2 := by
  rw [Nat.testBit_eq_decide_div_mod_eq]
  have : x / 2 ^ i % 2 < 2 := Nat.mod_lt _ (by omega)
  rcases (by omega : x / 2 ^ i % 2 = 0 ∨ x / 2 ^ i % 2 = 1) with h | h <;> simp [h]
/-- The m bits of c from the place p on downwards. -/
theorem val_down (c p : Nat) : ∀ m, m ≤ p → val (fun i => c.testBit (p - 1 - i)) m = c / 2 ^ (p - m) % 2 ^ m
  | 0, _ => by simp [val, Nat.mod_one]
  | m + 1, h => by
    rw [val, val_down c p m (by omega), testBit_toNat]
    obtain ⟨q, rfl⟩ : ∃ q, p = q + (m + 1) := ⟨p - (m + 1), by omega⟩
    rw [show q + (m + 1) - m = q + 1 by omega, show q + (m + 1) - 1 - m = q by omega, show q + (m + 1) - (m + 1) = q by omega]
    rw [Nat.pow_succ 2 q, ← Nat.div_div_eq_div_mul, Nat.pow_succ 2 m, Nat.mul_comm (2 ^ m) 2, Nat.mod_mul]
    omega
theorem val_num {x n : Nat} (h : x < 2 ^ n) : val (fun i => x.testBit (n - 1 - i)) n = x := by
  rw [val_down x n n (Nat.le_refl n), Nat.sub_self, Nat.pow_zero, Nat.div_one, Nat.mod_eq_of_lt h]
theorem val_zero : ∀ n, val (fun _ => false) n = 0
  | 0 => rfl
  | n + 1 => by rw [val, val_zero n]; rfl
theorem val_shift (f : Nat → Bool) (k m : Nat) (h : ∀ i, k ≤ i → i < k + m → f i = false) : val f (k + m) = val f k * 2 ^ m := by
  rw [val_add, val_congr (g := fun _ => false) m fun i hi => h (k + i) (by omega) (by omega), val_zero, Nat.add_zero]

theorem zeros_le : ∀ n f, zeros n f ≤ n
  | 0, _ => by simp [zeros]
  | n + 1, f => by
    have := zeros_le n fun i => f (i + 1)
    rw [zeros]
    split <;> omega
theorem zeros_false : ∀ n f i, i < zeros n f → f i = false
  | 0, _, i, h => by simp [zeros] at h
  | n + 1, f, i, h => by
    rw [zeros] at h
    split at h
    · omega
    · rename_i h0
      rcases i with _ | i
      · simpa using h0
      · exact zeros_false n (fun i => f (i + 1)) i (by omega)
theorem zeros_true : ∀ n f, zeros n f < n → f (zeros n f) = true
  | 0, _, h => by omega
  | n + 1, f, h => by
    by_cases h0 : f 0 = true
    · have hz : zeros (n + 1) f = 0 := by rw [zeros, if_pos h0]
      rw [hz]; exact h0
    · have hz : zeros (n + 1) f = zeros n (fun i => f (i + 1)) + 1 := by rw [zeros, if_neg h0]; omega
      rw [hz] at h ⊢
      exact zeros_true n (fun i => f (i + 1)) (by omega)
theorem zeros_eq {n z : Nat} {f : Nat → Bool} (h1 : z ≤ n) (h2 : ∀ i, i < z → f i = false) (h3 : z < n → f z = true) : zeros n f = z := by
  have hle := zeros_le n f
  rcases Nat.lt_trichotomy (zeros n f) z with h | h | h
  · have := zeros_true n f (by omega)
    rw [h2 _ h] at this
    cases this
  · exact h
  · have := zeros_false n f z h
    rw [h3 (by omega)] at this
    cases this
theorem zeros_congr {n : Nat} {f g : Nat → Bool} (h : ∀ i, i < n → f i = g i) : zeros n f = zeros n g := by
  have hle := zeros_le n g
  exact zeros_eq hle (fun i hi => by rw [h i (by omega)]; exact zeros_false n g i hi) (fun hz => by rw [h _ hz]; exact zeros_true n g hz)

theorem num_length (x n : Nat) : (num x n).length = n := by simp [num]
theorem num_getD (x n i : Nat) (h : i < n) : (num x n).getD i false = x.testBit (n - 1 - i) := by simp [num, List.getD_eq_getElem?_getD, h]
theorem testBit_high {x n i : Nat} (h : x < 2 ^ n) (hi : n ≤ i) : x.testBit i = false := Nat.testBit_lt_two_pow (Nat.lt_of_lt_of_le h (Nat.pow_le_pow_right (by omega) hi))

/-- These bytes are just these bits, with bits 0 behind the last one. -/
def Packs (l : List UInt8) (B : List Bool) : Prop := l.length = (B.length + 7) / 8 ∧ ∀ i, i < 8 * l.length → at_ l i = B.getD i false

theorem u8_ext {a b : UInt8} (h : ∀ j, j < 8 → a.toNat.testBit j = b.toNat.testBit j) : a = b := by
  apply UInt8.toNat_inj.1
  apply Nat.eq_of_testBit_eq
  intro j
  by_cases hj : j < 8
  · exact h j hj
  · rw [testBit_high (n := 8) a.toNat_lt (by omega), testBit_high (n := 8) b.toNat_lt (by omega)]
theorem getD_ext {a b : List UInt8} (h : a.length = b.length) (hx : ∀ i, i < a.length → a.getD i 0 = b.getD i 0) : a = b := by
  apply List.ext_getElem h
  intro i h1 h2
  have := hx i h1
  simpa [List.getD_eq_getElem?_getD, h1, h2] using this
theorem Packs.uniq {a b : List UInt8} {B : List Bool} (ha : Packs a B) (hb : Packs b B) : a = b := by
  have hl : a.length = b.length := ha.1.trans hb.1.symm
  refine getD_ext hl fun i hi => u8_ext fun j hj => ?_
  have h1 := ha.2 (8 * i + (7 - j)) (by omega)
  have h2 := hb.2 (8 * i + (7 - j)) (by omega)
  unfold at_ at h1 h2
  rw [show (8 * i + (7 - j)) / 8 = i by omega, show 7 - (8 * i + (7 - j)) % 8 = j by omega] at h1 h2
  rw [h1, h2]
theorem Packs.nil : Packs [] [] := ⟨by simp, fun i hi => by simp at hi⟩
theorem at_zeros (l : List UInt8) (k i : Nat) : at_ (l ++ List.replicate k 0) i = (if i < 8 * l.length then at_ l i else false) := by
  unfold at_
  by_cases h : i < 8 * l.length
  · have h1 : i / 8 < l.length := by omega
    rw [if_pos h, List.getD_eq_getElem?_getD, List.getElem?_append_left h1, List.getD_eq_getElem?_getD]
  · have h1 : l.length ≤ i / 8 := by omega
    rw [if_neg h, List.getD_eq_getElem?_getD, List.getElem?_append_right h1, List.getElem?_replicate]
    split <;> simp
theorem getD_app_right (B C : List Bool) (i : Nat) (h : B.length ≤ i) : (B ++ C).getD i false = C.getD (i - B.length) false := by
  simp only [List.getD_eq_getElem?_getD]
  rw [List.getElem?_append_right h]
theorem getD_app_left (B C : List Bool) (i : Nat) (h : i < B.length) : (B ++ C).getD i false = B.getD i false := by
  simp only [List.getD_eq_getElem?_getD]
  rw [List.getElem?_append_left h]
theorem getD_far (B : List Bool) (i : Nat) (h : B.length ≤ i) : B.getD i false = false := by
  simp only [List.getD_eq_getElem?_getD]
  rw [List.getElem?_eq_none h]; rfl
theorem getD_falses (B : List Bool) (n i : Nat) : (B ++ List.replicate n false).getD i false = B.getD i false := by
  by_cases h : i < B.length
  · exact getD_app_left _ _ _ h
  · rw [getD_app_right _ _ _ (by omega), getD_far B i (by omega), List.getD_eq_getElem?_getD, List.getElem?_replicate]
    split <;> rfl
/-- What widening leaves. -/
theorem Packs.widen {l : List UInt8} {B : List Bool} (h : Packs l B) (n : Nat) : Packs (l ++ List.replicate ((B.length + n + 7) / 8 - l.length) 0) (B ++ List.replicate n false) := by
  have h1 := h.1
  refine ⟨by simp; omega, fun i hi => ?_⟩
  rw [at_zeros, getD_falses]
  by_cases hx : i < 8 * l.length
  · rw [if_pos hx]; exact h.2 i hx
  · rw [if_neg hx, getD_far B i (by omega)]

/-- While x is laid behind the bits B, in n bits, up to the place 'p'. -/
def Adds (B : List Bool) (x n : Nat) (l : List UInt8) (p : Nat) : Prop :=
  l.length = (B.length + n + 7) / 8 ∧ B.length ≤ p ∧ p ≤ B.length + n ∧ (p = B.length ∨ p % 8 = 0 ∨ p = B.length + n) ∧
  ∀ i, i < 8 * l.length → at_ l i = (if i < B.length then B.getD i false else (decide (i < p) && x.testBit (B.length + n - 1 - i)))
theorem Adds.start {l : List UInt8} {B : List Bool} (h : Packs l B) (x n : Nat) : Adds B x n (l ++ List.replicate ((B.length + n + 7) / 8 - l.length) 0) B.length := by
  have h2 := h.widen n
  have h1 := h.1
  refine ⟨by simp; omega, Nat.le_refl _, by omega, .inl rfl, fun i hi => ?_⟩
  rw [h2.2 i hi, getD_falses]
  by_cases hx : i < B.length
  · rw [if_pos hx]
  · rw [if_neg hx, getD_far B i (by omega), decide_eq_false hx]; rfl
theorem Adds.done {l : List UInt8} {B : List Bool} {x n : Nat} (h : Adds B x n l (B.length + n)) : Packs l (B ++ num x n) := by
  refine ⟨by rw [h.1, List.length_append, num_length], fun i hi => ?_⟩
  rw [h.2.2.2.2 i hi]
  by_cases h1 : i < B.length
  · rw [if_pos h1, getD_app_left _ _ _ h1]
  · rw [if_neg h1, getD_app_right _ _ _ (by omega)]
    by_cases h2 : i < B.length + n
    · rw [decide_eq_true h2, Bool.true_and, num_getD _ _ _ (by omega)]
      congr 1
      omega
    · rw [decide_eq_false h2, getD_far _ _ (by rw [num_length]; omega)]; rfl
theorem at_set (l : List UInt8) (j i : Nat) (c : UInt8) (hj : j < l.length) : at_ (l.set j c) i = (if i / 8 = j then c.toNat.testBit (7 - i % 8) else at_ l i) := by
  unfold at_
  simp only [List.getD_eq_getElem?_getD, List.getElem?_set]
  by_cases h : i / 8 = j
  · rw [if_pos h, if_pos h.symm, if_pos hj]; rfl
  · rw [if_neg h, if_neg (fun e => h e.symm)]
/-- The byte that a piece of x makes of an old one. -/
def mix (c : UInt8) (x s t : Nat) : UInt8 := c ||| UInt8.ofNat ((x >>> s) % 256 * 2 ^ t)
theorem mix_bit (c : UInt8) (x s t j : Nat) (hj : j < 8) : (mix c x s t).toNat.testBit j = (c.toNat.testBit j || (decide (t ≤ j) && x.testBit (s + (j - t)))) := by
  unfold mix
  rw [UInt8.toNat_or, Nat.testBit_or, UInt8.toNat_ofNat', Nat.testBit_mod_two_pow, decide_eq_true hj, Bool.true_and, Nat.testBit_mul_two_pow]
  by_cases h : t ≤ j
  · rw [decide_eq_true h, Bool.true_and, Bool.true_and, show (256 : Nat) = 2 ^ 8 from rfl, Nat.testBit_mod_two_pow, decide_eq_true (show j - t < 8 by omega), Bool.true_and, Nat.testBit_shiftRight]
  · rw [decide_eq_false h]
    simp
theorem Adds.step {l : List UInt8} {B : List Bool} {x n p k : Nat} (h : Adds B x n l p) (hx : x < 2 ^ n) (hk : k = min (B.length + n - p) (8 - p % 8)) (hp : p < B.length + n) :
    Adds B x n (l.set (p / 8) (mix (l.getD (p / 8) 0) x (B.length + n - p - k) (8 - p % 8 - k))) (p + k) := by
  obtain ⟨h1, h2, h3, h4, h5⟩ := h
  have hj : p / 8 < l.length := by omega
  refine ⟨by rw [List.length_set]; exact h1, by omega, by omega, by omega, fun i hi => ?_⟩
  rw [List.length_set] at hi
  have h5i := h5 i hi
  rw [at_set _ _ _ _ hj]
  by_cases hb : i / 8 = p / 8
  · rw [if_pos hb, mix_bit _ _ _ _ _ (by omega)]
    have hat : (l.getD (p / 8) 0).toNat.testBit (7 - i % 8) = at_ l i := by unfold at_; rw [hb]
    rw [hat, h5i]
    by_cases hi1 : i < B.length
    · rw [if_pos hi1, if_pos hi1]
      by_cases ht : 8 - p % 8 - k ≤ 7 - i % 8
      · rw [testBit_high hx (by omega)]; simp
      · simp [ht]
    · rw [if_neg hi1, if_neg hi1]
      by_cases hip : i < p
      · rw [decide_eq_true hip, decide_eq_true (show i < p + k by omega)]
        omega
      · rw [decide_eq_false hip, Bool.false_and, Bool.false_or]
        by_cases hik : i < p + k
        · rw [decide_eq_true hik, decide_eq_true (show 8 - p % 8 - k ≤ 7 - i % 8 by omega)]
          congr 2
          omega
        · rw [decide_eq_false hik, decide_eq_false (show ¬ 8 - p % 8 - k ≤ 7 - i % 8 by omega)]
          rfl
  · rw [if_neg hb, h5i]
    by_cases hi1 : i < B.length
    · rw [if_pos hi1, if_pos hi1]
    · rw [if_neg hi1, if_neg hi1]
      by_cases hip : i < p
      · rw [decide_eq_true hip, decide_eq_true (show i < p + k by omega)]
      · rw [decide_eq_false hip, decide_eq_false (show ¬ i < p + k by omega)]
/-- A piece of a byte that is read. -/
theorem val_byte (l : List UInt8) (p m : Nat) (h : p % 8 + m ≤ 8) : val (fun i => at_ l (p + i)) m = (l.getD (p / 8) 0).toNat / 2 ^ (8 - p % 8 - m) % 2 ^ m := by
  rw [← val_down _ (8 - p % 8) m (by omega)]
  refine val_congr m fun i hi => ?_
  unfold at_
  rw [show (p + i) / 8 = p / 8 by omega, show 7 - (p + i) % 8 = 8 - p % 8 - 1 - i by omega]
end Bit
end Go.Proofs.Ytabhemmmefefgaa
