/- Right lengths and their words, as values; no word begins another one. Plain mathematics of chapter 8. -/
import Derived.Test.YtabhemmmefefgaaLenDoc
namespace Go.Proofs.Ytabhemmmefefgaa.Can
open Len

def lenAt (l : List UInt8) (i : Nat) : Nat := (l.getD i 0).toNat
def usedC (l : List UInt8) (n : Nat) : Nat := sumN n fun i => if lenAt l i = 0 then 0 else 1
def oneC (l : List UInt8) (n : Nat) : Nat := sumN n fun i => if lenAt l i = 1 then 1 else 0
/-- Are lengths right? -/
def right (l : List UInt8) : Bool := decide ((kraftE l).2 = 0 ∧ (usedC l l.length = 0 ∨ usedC l l.length = 1 ∧ oneC l l.length = 1 ∨ (kraftE l).1 = 32768))
def checkE (l : List UInt8) : Int := if right l then 0 else 7
theorem check_right {l : List UInt8} (h : right l = true) : checkE l = 0 := by unfold checkE; rw [if_pos h]
theorem check_wrong {l : List UInt8} (h : right l = false) : checkE l = 7 := by unfold checkE; rw [h]; rfl

theorem sumN_pt (s c : Nat) : ∀ n, (sumN n fun t => if t = s then c else 0) = if s < n then c else 0
  | 0 => rfl
  | n + 1 => by
    rw [sumN, sumN_pt s c n]
    by_cases h : s < n
    · rw [if_pos h, if_neg (by omega), if_pos (by omega)]
      omega
    · by_cases e : n = s
      · rw [if_neg h, if_pos e, if_pos (by omega)]
        omega
      · rw [if_neg h, if_neg e, if_neg (by omega)]
/-- What lies ahead of symbol s of length k, in parts of 2^15. -/
def ahead (l : List UInt8) (k s t : Nat) : Nat := if lenAt l t ≠ 0 ∧ (lenAt l t < k ∨ lenAt l t = k ∧ t < s) then 2 ^ (15 - lenAt l t) else 0
def acc (l : List UInt8) (k s : Nat) : Nat := sumN l.length (ahead l k s)
theorem acc_start (l : List UInt8) : acc l 1 0 = 0 := sumN_zero _ fun i _ => by
  unfold ahead
  rw [if_neg]
  omega
theorem acc_turn (l : List UInt8) (k : Nat) : acc l (k + 1) 0 = acc l k l.length := sumN_congr fun i hi => by
  unfold ahead
  by_cases h : lenAt l i ≠ 0 ∧ (lenAt l i < k ∨ lenAt l i = k ∧ i < l.length)
  · rw [if_pos h, if_pos ⟨h.1, by omega⟩]
  · rw [if_neg h, if_neg (by omega)]
theorem acc_step (l : List UInt8) {k s : Nat} (hk : 1 ≤ k) (hs : s < l.length) : acc l k (s + 1) = acc l k s + if lenAt l s = k then 2 ^ (15 - k) else 0 := by
  have h1 : (if lenAt l s = k then 2 ^ (15 - k) else 0) = sumN l.length fun t => if t = s then (if lenAt l s = k then 2 ^ (15 - k) else 0) else 0 := by rw [sumN_pt, if_pos hs]
  rw [h1]
  unfold acc
  rw [← sumN_add]
  refine sumN_congr fun i hi => ?_
  unfold ahead
  by_cases e : i = s
  · subst e
    rw [if_pos rfl]
    by_cases hl : lenAt l i = k
    · rw [if_pos hl, if_pos ⟨by omega, by omega⟩, if_neg (by omega), hl]
      omega
    · rw [if_neg hl]
      by_cases h : lenAt l i ≠ 0 ∧ (lenAt l i < k ∨ lenAt l i = k ∧ i < i)
      · rw [if_pos h, if_pos ⟨h.1, by omega⟩]
        rfl
      · rw [if_neg h, if_neg (by omega)]
  · rw [if_neg e]
    by_cases h : lenAt l i ≠ 0 ∧ (lenAt l i < k ∨ lenAt l i = k ∧ i < s)
    · rw [if_pos h, if_pos ⟨h.1, by omega⟩]
      rfl
    · rw [if_neg h, if_neg (by omega)]
theorem acc_le (l : List UInt8) (k s : Nat) : acc l k s ≤ kraftOf l l.length := sumN_le fun i _ => by
  unfold ahead lenAt
  split
  · rename_i h
    rw [if_neg h.1]
    exact Nat.le_refl _
  · omega
/-- The word of a symbol. -/
def word (l : List UInt8) (s : Nat) : Nat := if lenAt l s = 0 then 0 else acc l (lenAt l s) s / 2 ^ (15 - lenAt l s)
def codesL (l : List UInt8) : List Nat := (List.range l.length).map (word l)
def codesE (l : List UInt8) : List Nat × Int := if right l then (codesL l, 0) else ([], 7)
theorem kraft_ok {l : List UInt8} (h : (kraftE l).2 = 0) : l.length ≤ 300 ∧ (∀ i, i < l.length → lenAt l i ≤ 15) ∧ (kraftE l).1 = kraftOf l l.length := by
  unfold kraftE at *
  split at h
  · rename_i h2
    rw [if_pos h2]
    exact ⟨h2.1, h2.2, rfl⟩
  · simp at h
theorem used_kraft {l : List UInt8} : ∀ n, n ≤ l.length → kraftOf l n ≤ 16384 * usedC l n
  | 0, _ => by simp [kraftOf, usedC, sumN]
  | n + 1, h => by
    have := used_kraft (l := l) n (by omega)
    unfold kraftOf usedC at *
    rw [sumN, sumN]
    unfold lenAt at *
    by_cases h0 : (l.getD n 0).toNat = 0
    · rw [if_pos h0, if_pos h0]
      omega
    · rw [if_neg h0, if_neg h0]
      have : 2 ^ (15 - (l.getD n 0).toNat) ≤ 2 ^ 14 := Nat.pow_le_pow_right (by omega) (by omega)
      omega
theorem right_facts {l : List UInt8} (h : right l = true) : l.length ≤ 300 ∧ (∀ i, i < l.length → lenAt l i ≤ 15) ∧ kraftOf l l.length ≤ 32768 := by
  have h1 := of_decide_eq_true h
  obtain ⟨k1, k2, k3⟩ := kraft_ok h1.1
  refine ⟨k1, k2, ?_⟩
  have hu := used_kraft (l := l) l.length (Nat.le_refl _)
  rcases h1.2 with h2 | h2 | h2
  · rw [h2] at hu; omega
  · rw [h2.1] at hu; omega
  · omega
section
variable {l : List UInt8}
theorem sumN_dvd {n c : Nat} {f : Nat → Nat} (h : ∀ i, i < n → c ∣ f i) : c ∣ sumN n f := by
  induction n with
  | zero => exact ⟨0, by simp [sumN]⟩
  | succ n ih =>
    rw [sumN]
    exact Nat.dvd_add (ih fun i hi => h i (by omega)) (h n (by omega))
theorem acc_dvd (k s : Nat) : 2 ^ (15 - k) ∣ acc l k s := sumN_dvd fun i _ => by
  unfold ahead
  split
  · exact Nat.pow_dvd_pow 2 (by omega)
  · exact ⟨0, by simp⟩
theorem word_mul {s : Nat} (h0 : lenAt l s ≠ 0) : word l s * 2 ^ (15 - lenAt l s) = acc l (lenAt l s) s := by
  unfold word
  rw [if_neg h0]
  exact Nat.div_mul_cancel (acc_dvd _ _)
theorem word_lt (hr : right l = true) {s : Nat} (hs : s < l.length) : word l s < 2 ^ 15 := by
  by_cases h0 : lenAt l s = 0
  · unfold word
    rw [if_pos h0]
    decide
  · obtain ⟨_, h15, hk⟩ := right_facts hr
    have h1 := acc_le l (lenAt l s) (s + 1)
    rw [acc_step l (by omega) hs, if_pos rfl, ← word_mul h0] at h1
    have h2 : 0 < 2 ^ (15 - lenAt l s) := Nat.pow_pos (by omega)
    have h3 : word l s * 1 ≤ word l s * 2 ^ (15 - lenAt l s) := Nat.mul_le_mul_left _ h2
    omega
theorem acc_before {a b : Nat} (ha : a < l.length) (a0 : lenAt l a ≠ 0) (h : lenAt l a < lenAt l b ∨ lenAt l a = lenAt l b ∧ a < b) : acc l (lenAt l a) a + 2 ^ (15 - lenAt l a) ≤ acc l (lenAt l b) b := by
  have h1 := acc_step l (k := lenAt l a) (by omega) ha
  rw [if_pos rfl] at h1
  rw [← h1]
  refine sumN_le fun i _ => ?_
  unfold ahead
  by_cases h2 : lenAt l i ≠ 0 ∧ (lenAt l i < lenAt l a ∨ lenAt l i = lenAt l a ∧ i < a + 1)
  · rw [if_pos h2, if_pos ⟨h2.1, by omega⟩]
    exact Nat.le_refl _
  · rw [if_neg h2]
    omega
/-- The words ahead, made as long, are below. -/
theorem word_order {a b : Nat} (ha : a < l.length) (a0 : lenAt l a ≠ 0) (b0 : lenAt l b ≠ 0) (b15 : lenAt l b ≤ 15) (h : lenAt l a < lenAt l b ∨ lenAt l a = lenAt l b ∧ a < b) :
    (word l a + 1) * 2 ^ (lenAt l b - lenAt l a) ≤ word l b := by
  have h1 := acc_before ha a0 h
  rw [← word_mul a0, ← word_mul b0] at h1
  have e : 2 ^ (15 - lenAt l a) = 2 ^ (lenAt l b - lenAt l a) * 2 ^ (15 - lenAt l b) := by rw [← Nat.pow_add]; congr 1; omega
  rw [e, ← Nat.mul_assoc, ← Nat.add_mul] at h1
  have h3 : word l a * 2 ^ (lenAt l b - lenAt l a) + 2 ^ (lenAt l b - lenAt l a) ≤ word l b := Nat.le_of_mul_le_mul_right h1 (Nat.pow_pos (by omega))
  rw [Nat.add_mul, Nat.one_mul]
  exact h3
/-- No word begins another one. -/
theorem word_apart {a b : Nat} (ha : a < l.length) (hb : b < l.length) (hab : a ≠ b) (a0 : lenAt l a ≠ 0) (b0 : lenAt l b ≠ 0) (b15 : lenAt l b ≤ 15) (h : lenAt l a ≤ lenAt l b) :
    word l b / 2 ^ (lenAt l b - lenAt l a) ≠ word l a := by
  by_cases h2 : lenAt l a < lenAt l b ∨ lenAt l a = lenAt l b ∧ a < b
  · have h3 := word_order ha a0 b0 b15 h2
    have h4 := (Nat.le_div_iff_mul_le (Nat.pow_pos (n := lenAt l b - lenAt l a) (by omega : 0 < 2))).2 h3
    omega
  · have he : lenAt l b = lenAt l a := by omega
    have h3 := word_order hb b0 a0 (by omega) (.inr ⟨he, by omega⟩)
    rw [he, Nat.sub_self, Nat.pow_zero, Nat.mul_one] at h3
    rw [he, Nat.sub_self, Nat.pow_zero, Nat.div_one]
    omega
end
end Go.Proofs.Ytabhemmmefefgaa.Can
