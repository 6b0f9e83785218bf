/- How many symbols have each length, and the first word of each length, as the program counts them. Plain mathematics of chapter 8. -/
import Derived.Test.YtabhemmmefefgaaCanMath
namespace Go.Proofs.Ytabhemmmefefgaa.Can
open Len

/-- How many of the first n symbols have length k. -/
def cnt (l : List UInt8) (n k : Nat) : Nat := sumN n fun i => if lenAt l i = k then 1 else 0
/-- The first word of length k. -/
def fst (l : List UInt8) (k : Nat) : Nat := if k = 0 then 0 else acc l k 0 / 2 ^ (15 - k)
theorem cnt_succ (l : List UInt8) (n k : Nat) : cnt l (n + 1) k = cnt l n k + if lenAt l n = k then 1 else 0 := rfl
theorem cnt_le (l : List UInt8) (k : Nat) : ∀ n, cnt l n k ≤ n
  | 0 => Nat.le_refl _
  | n + 1 => by
    have := cnt_le l k n
    rw [cnt_succ]
    split <;> omega
theorem acc_cnt (l : List UInt8) {k : Nat} (hk : 1 ≤ k) : ∀ s, s ≤ l.length → acc l k s = acc l k 0 + cnt l s k * 2 ^ (15 - k)
  | 0, _ => by simp [cnt, sumN]
  | s + 1, h => by
    rw [acc_step l hk (by omega), acc_cnt l hk s (by omega), cnt_succ]
    split
    · rw [Nat.add_mul, Nat.one_mul, Nat.add_assoc]
    · simp
theorem fst_mul (l : List UInt8) {k : Nat} (hk : 1 ≤ k) : fst l k * 2 ^ (15 - k) = acc l k 0 := by
  unfold fst
  rw [if_neg (by omega)]
  exact Nat.div_mul_cancel (acc_dvd _ _)
theorem fst_one (l : List UInt8) : fst l 1 = 0 := by
  unfold fst
  rw [if_neg (by omega), acc_start, Nat.zero_div]
theorem fst_acc (l : List UInt8) {k : Nat} (hk : 1 ≤ k) (s : Nat) (hs : s ≤ l.length) : (fst l k + cnt l s k) * 2 ^ (15 - k) = acc l k s := by
  rw [Nat.add_mul, fst_mul l hk, ← acc_cnt l hk s hs]
theorem fst_next (l : List UInt8) {k : Nat} (hk : 1 ≤ k) (h15 : k < 15) : fst l (k + 1) = (fst l k + cnt l l.length k) * 2 := by
  have h1 := fst_acc l hk l.length (Nat.le_refl _)
  rw [← acc_turn, ← fst_mul l (k := k + 1) (by omega), show 15 - k = 15 - (k + 1) + 1 by omega, Nat.pow_succ, ← Nat.mul_assoc, Nat.mul_right_comm] at h1
  exact (Nat.eq_of_mul_eq_mul_right (Nat.pow_pos (by omega)) h1).symm
theorem fst_room {l : List UInt8} (hr : right l = true) {k : Nat} (hk : 1 ≤ k) (s : Nat) (hs : s ≤ l.length) : fst l k + cnt l s k ≤ 32768 := by
  have h1 := acc_le l k s
  rw [← fst_acc l hk s hs] at h1
  have h2 := (right_facts hr).2.2
  have h3 : (fst l k + cnt l s k) * 1 ≤ (fst l k + cnt l s k) * 2 ^ (15 - k) := Nat.mul_le_mul_left _ (Nat.pow_pos (by omega))
  omega
theorem word_fst (l : List UInt8) {s : Nat} (hs : s < l.length) (h0 : lenAt l s ≠ 0) : word l s = fst l (lenAt l s) + cnt l s (lenAt l s) := by
  unfold word
  rw [if_neg h0, ← fst_acc l (by omega) s (by omega), Nat.mul_div_cancel _ (Nat.pow_pos (by omega))]

theorem cnt_sum {l : List UInt8} (c : Nat → Nat) : ∀ n, (∀ i, i < n → lenAt l i ≤ 15) → (sumN 15 fun j => cnt l n (j + 1) * c (j + 1)) = sumN n fun i => if lenAt l i = 0 then 0 else c (lenAt l i)
  | 0, _ => sumN_zero _ fun i _ => by simp [cnt, sumN]
  | n + 1, h => by
    have ih := cnt_sum c n (fun i hi => h i (by omega))
    have e : (sumN 15 fun j => cnt l (n + 1) (j + 1) * c (j + 1)) = sumN 15 fun j => cnt l n (j + 1) * c (j + 1) + (if lenAt l n = j + 1 then c (j + 1) else 0) := sumN_congr fun j _ => by
      rw [cnt_succ, Nat.add_mul]
      split <;> simp
    have e3 : (sumN 15 fun j => if lenAt l n = j + 1 then c (j + 1) else 0) = if lenAt l n = 0 then 0 else c (lenAt l n) := by
      by_cases h0 : lenAt l n = 0
      · rw [if_pos h0]
        exact sumN_zero _ fun j _ => if_neg (by omega)
      · rw [if_neg h0]
        have e2 : (sumN 15 fun j => if lenAt l n = j + 1 then c (j + 1) else 0) = sumN 15 fun j => if j = lenAt l n - 1 then c (lenAt l n) else 0 := sumN_congr fun j _ => by
          by_cases hj : lenAt l n = j + 1
          · rw [if_pos hj, if_pos (by omega), hj]
          · rw [if_neg hj, if_neg (by omega)]
        have := h n (by omega)
        rw [e2, sumN_pt, if_pos (by omega)]
    rw [e, sumN_add, ih, e3]
    rfl
/-- How many words there are, and their weight, by the counts. -/
def wordsF (f : Nat → Nat) (n : Nat) : Nat := sumN n fun j => f (j + 1)
def weightF (f : Nat → Nat) (n : Nat) : Nat := sumN n fun j => f (j + 1) * 2 ^ (15 - (j + 1))
def rightF (f : Nat → Nat) : Bool := decide (wordsF f 15 = 0 ∨ wordsF f 15 = 1 ∧ f 1 = 1 ∨ weightF f 15 = 32768)
theorem wordsF_le {f : Nat → Nat} (hf : ∀ k, f k ≤ 300) (n : Nat) : wordsF f n ≤ n * 300 := by
  rw [← sumN_const 300 n]
  exact sumN_le fun j _ => hf _
theorem weightF_le {f : Nat → Nat} (hf : ∀ k, f k ≤ 300) (n : Nat) : weightF f n ≤ n * 9830400 := by
  rw [← sumN_const 9830400 n]
  refine sumN_le fun j _ => ?_
  have h1 : 2 ^ (15 - (j + 1)) ≤ 2 ^ 15 := Nat.pow_le_pow_right (by omega) (by omega)
  have h2 := Nat.mul_le_mul (hf (j + 1)) h1
  omega
theorem right_of_counts {l : List UInt8} (hn : l.length ≤ 300) (h15 : ∀ i, i < l.length → lenAt l i ≤ 15) : rightF (cnt l l.length) = right l := by
  have hk : kraftE l = (kraftOf l l.length, 0) := if_pos ⟨hn, h15⟩
  have h1 : wordsF (cnt l l.length) 15 = usedC l l.length := by
    have := cnt_sum (l := l) (fun _ => 1) l.length h15
    simp only [Nat.mul_one] at this
    exact this
  have h2 : weightF (cnt l l.length) 15 = kraftOf l l.length := cnt_sum (l := l) (fun k => 2 ^ (15 - k)) l.length h15
  unfold rightF right
  rw [h1, h2, hk]
  apply decide_eq_decide.2
  constructor
  · exact fun h => ⟨rfl, h⟩
  · exact fun h => h.2
theorem wrong_long {l : List UInt8} (hn : 300 < l.length) : right l = false := decide_eq_false fun h => by
  have := (kraft_ok h.1).1
  omega
theorem wrong_high {l : List UInt8} {i : Nat} (hi : i < l.length) (h : 15 < lenAt l i) : right l = false := decide_eq_false fun h2 => by
  have := (kraft_ok h2.1).2.1 i hi
  omega
/-- The words of the first s symbols, the others 0. -/
def codesTo (l : List UInt8) (s : Nat) : List Nat := (List.range l.length).map fun t => if t < s then word l t else 0
theorem codesTo_len (l : List UInt8) (s : Nat) : (codesTo l s).length = l.length := by simp [codesTo]
theorem codesTo_none (l : List UInt8) : codesTo l 0 = List.replicate l.length 0 := by
  refine List.ext_getElem (by simp [codesTo]) fun t h1 h2 => ?_
  simp [codesTo]
theorem codesTo_all (l : List UInt8) : codesTo l l.length = codesL l := by
  refine List.ext_getElem (by simp [codesTo, codesL]) fun t h1 h2 => ?_
  have : t < l.length := by simpa [codesTo] using h1
  simp [codesTo, codesL, this]
theorem codesTo_set (l : List UInt8) (s : Nat) : (codesTo l s).set s (word l s) = codesTo l (s + 1) := by
  refine List.ext_getElem (by simp [codesTo]) fun t h1 h2 => ?_
  rw [List.getElem_set]
  simp only [codesTo, List.getElem_map, List.getElem_range]
  split
  · rename_i e
    rw [if_pos (by omega), e]
  · rename_i e
    by_cases h : t < s
    · rw [if_pos h, if_pos (by omega)]
    · rw [if_neg h, if_neg (by omega)]
theorem codesTo_pass (l : List UInt8) {s : Nat} (h : lenAt l s = 0) : codesTo l s = codesTo l (s + 1) := by
  have e : word l s = 0 := if_pos h
  refine List.ext_getElem (by simp [codesTo]) fun t h1 h2 => ?_
  simp only [codesTo, List.getElem_map, List.getElem_range]
  by_cases ht : t = s
  · rw [if_neg (by omega), if_pos (by omega), ht, e]
  · by_cases h : t < s
    · rw [if_pos h, if_pos (by omega)]
    · rw [if_neg h, if_neg (by omega)]
end Go.Proofs.Ytabhemmmefefgaa.Can
