/- Plain facts: bits that are turned side by side are told by the sum. -/
import Derived.Test.YtcoegdkkogoaiaaDoorCrcCut
namespace Go.Proofs.YtcoegdkkogoaiaaDoor
namespace Crc
theorem mul_xor (n a b : Nat) : 2 ^ n * (a ^^^ b) = (2 ^ n * a) ^^^ (2 ^ n * b) := by
  have := @Nat.shiftLeft_xor_distrib n a b
  simpa [Nat.shiftLeft_eq, Nat.mul_comm] using this
theorem num_cons (b : UInt8) (l : List UInt8) : num (b :: l) = (2 ^ 8 * num l) ^^^ b.toNat := by
  rw [← split_xor 8 _ _ b.toNat_lt]
  simp only [num]
  omega
theorem num_set_xor (x : UInt8) : ∀ (l : List UInt8) (d : Nat), d < l.length → num (l.set d (l.getD d 0 ^^^ x)) = num l ^^^ (2 ^ (8 * d) * x.toNat) := by
  intro l
  induction l with
  | nil => intro d h; simp at h
  | cons b l ih =>
    intro d h
    rcases d with _ | d
    · simp only [List.set_cons_zero, List.getD_cons_zero, num_cons, UInt8.toNat_xor]
      simp [Nat.xor_assoc]
    · simp only [List.set_cons_succ, List.getD_cons_succ, num_cons, ih d (by simpa using h), mul_xor]
      rw [← Nat.mul_assoc, ← Nat.pow_add, show 8 + 8 * d = 8 * (d + 1) by omega]
      ac_rfl
/-- One bit turned. -/
def flip (l : List UInt8) (i : Nat) : List UInt8 := l.set (i / 8) (l.getD (i / 8) 0 ^^^ UInt8.ofNat (2 ^ (i % 8)))
theorem flip_length (l : List UInt8) (i : Nat) : (flip l i).length = l.length := by simp [flip]
theorem num_flip (l : List UInt8) (i : Nat) (h : i < 8 * l.length) : num (flip l i) = num l ^^^ 2 ^ i := by
  unfold flip
  rw [num_set_xor _ l (i / 8) (by omega)]
  have hp : 2 ^ (i % 8) < 256 := Nat.lt_of_lt_of_le (Nat.pow_lt_pow_right (by omega) (Nat.mod_lt i (by omega) : i % 8 < 8)) (by decide)
  rw [UInt8.toNat_ofNat', Nat.mod_eq_of_lt (by omega), ← Nat.pow_add, show 8 * (i / 8) + i % 8 = i by omega]
def hit (N f pat k : Nat) : Bool := decide (pat / 2 ^ k % 2 = 1 ∧ f + k < 8 * N)
def flips (l : List UInt8) (f pat : Nat) : Nat → List UInt8
  | 0 => l
  | k + 1 => if hit l.length f pat k then flip (flips l f pat k) (f + k) else flips l f pat k
def turned (N f pat : Nat) : Nat → Bool
  | 0 => false
  | k + 1 => if hit N f pat k then true else turned N f pat k
theorem flips_length (l : List UInt8) (f pat : Nat) : ∀ k, (flips l f pat k).length = l.length := by
  intro k
  induction k with
  | zero => rfl
  | succ k ih =>
    simp only [flips]
    split
    · rw [flip_length, ih]
    · exact ih
theorem num_flips (l : List UInt8) (f pat : Nat) (hf : f ≤ 8 * l.length) : ∀ k, num (flips l f pat k) = num l ^^^ (2 ^ f * (pat % 2 ^ (min k (8 * l.length - f)))) := by
  intro k
  induction k with
  | zero => simp [flips, Nat.mod_one]
  | succ k ih =>
    simp only [flips]
    by_cases hk : f + k < 8 * l.length
    · have hm : min (k + 1) (8 * l.length - f) = min k (8 * l.length - f) + 1 := by omega
      have hm2 : min k (8 * l.length - f) = k := by omega
      rw [hm, mod_succ, mul_xor, ← Nat.xor_assoc, ← ih, hm2]
      by_cases hb : pat / 2 ^ k % 2 = 1
      · rw [if_pos (by simp [hit, hb, hk]), if_pos hb, num_flip _ _ (by rw [flips_length]; exact hk), ← Nat.pow_add]
      · rw [if_neg (by simp [hit, hb]), if_neg hb]; simp
    · rw [if_neg (by simp [hit]; intro _; omega), ih, show min (k + 1) (8 * l.length - f) = min k (8 * l.length - f) by omega]
theorem turned_zero (N f pat : Nat) (hf : f ≤ 8 * N) : ∀ k, turned N f pat k = false ↔ pat % 2 ^ (min k (8 * N - f)) = 0 := by
  intro k
  induction k with
  | zero => simp [turned, Nat.mod_one]
  | succ k ih =>
    simp only [turned]
    by_cases hk : f + k < 8 * N
    · have hm : min (k + 1) (8 * N - f) = min k (8 * N - f) + 1 := by omega
      have hm2 : min k (8 * N - f) = k := by omega
      rw [hm2] at ih
      rw [hm, hm2]
      by_cases hb : pat / 2 ^ k % 2 = 1
      · rw [if_pos (by simp [hit, hb, hk])]
        simp only [Bool.true_eq_false, false_iff]
        intro h0
        have h1 := congrArg (fun n => n.testBit k) h0
        simp only [Nat.testBit_mod_two_pow, Nat.zero_testBit] at h1
        rw [Nat.testBit_eq_decide_div_mod_eq] at h1
        simp [hb] at h1
      · rw [if_neg (by simp [hit, hb]), ih, mod_succ, if_neg hb]; simp
    · rw [if_neg (by simp [hit]; intro _; omega), ih, show min (k + 1) (8 * N - f) = min k (8 * N - f) by omega]
theorem num_tail (s : Nat) (h : s < 4294967296) : num (tail s) = s := by
  simp only [tail, num, UInt8.toNat_ofNat']
  omega
theorem not_xor (s : Nat) (h : s < 4294967296) : (4294967295 : Nat) ^^^ s = 4294967295 - s := by
  have h1 := congrArg BitVec.toNat (BitVec.allOnes_xor (x := BitVec.ofNat 32 s))
  rw [BitVec.toNat_xor, BitVec.toNat_not, BitVec.toNat_ofNat, BitVec.toNat_allOnes, Nat.mod_eq_of_lt (by omega : s < 2 ^ 32)] at h1
  exact h1
/-- A right sum leaves one and the same register. -/
theorem right_fold (l : List UInt8) (hr : right l = true) : fold 4294967295 l = run 32 4294967295 := by
  have e : l.drop (l.length - 4) = tail (sum (l.take (l.length - 4))) := of_decide_eq_true hr
  have hs := sum_le (l.take (l.length - 4))
  have hx := fold_le 4294967295 (l.take (l.length - 4)) (by omega)
  rw [← List.take_append_drop (l.length - 4) l, fold_append, e, fold_eq, show (tail (sum (l.take (l.length - 4)))).length = 4 from rfl, num_tail _ (by omega)]
  congr 1
  unfold sum
  rw [← not_xor _ (by omega)]
  have : fold 4294967295 (l.take (l.length - 4)) ^^^ (4294967295 ^^^ fold 4294967295 (l.take (l.length - 4))) = 4294967295 ^^^ (fold 4294967295 (l.take (l.length - 4)) ^^^ fold 4294967295 (l.take (l.length - 4))) := by ac_rfl
  rw [this]; simp
theorem turned_wrong (p : List UInt8) (f pat : Nat) (hp : right p = true) (hf : f ≤ 8 * p.length) (ht : turned p.length f pat 32 = true) : right (flips p f pat 32) = false := by
  by_cases hr : right (flips p f pat 32) = true
  · exfalso
    have hl := flips_length p f pat 32
    have h1 := right_fold p hp
    have h2 := right_fold _ hr
    rw [fold_eq] at h1 h2
    rw [hl, num_flips p f pat hf, ← Nat.xor_assoc, run_xor, h1] at h2
    have h3 : run (8 * p.length) (2 ^ f * (pat % 2 ^ (min 32 (8 * p.length - f)))) = 0 := by
      have := congrArg (fun n => run 32 4294967295 ^^^ n) h2
      simp only [← Nat.xor_assoc, Nat.xor_self, Nat.zero_xor] at this
      exact this
    rw [show 8 * p.length = f + (8 * p.length - f) by omega, run_add, show f + (8 * p.length - f) - f = 8 * p.length - f by omega, run_shift] at h3
    have hlt : pat % 2 ^ (min 32 (8 * p.length - f)) < 2 ^ 32 := Nat.lt_of_lt_of_le (Nat.mod_lt _ (Nat.two_pow_pos _)) (Nat.pow_le_pow_right (by omega) (by omega))
    have h0 := run_eq_zero _ hlt h3
    rw [(turned_zero p.length f pat hf 32).2 h0] at ht
    cases ht
  · simpa using hr
end Crc
end Go.Proofs.YtcoegdkkogoaiaaDoor
