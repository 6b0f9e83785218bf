/- Plain facts on the sum of chapter 1, over natural numbers: one shift is linear, and what bytes make of a register is what shifts make of their number. Conditions: none. -/
namespace Go.Proofs.YtkfipfhmbhmamaaDoor.Crc
def bit (x : Nat) : Nat := if x % 2 = 1 then (x / 2) ^^^ 3988292384 else x / 2
def run : Nat → Nat → Nat
  | 0, x => x
  | n + 1, x => run n (bit x)
def num : List UInt8 → Nat
  | [] => 0
  | b :: l => b.toNat + 256 * num l
def step8 (x : Nat) (b : UInt8) : Nat := run 8 (x ^^^ b.toNat)
def fold (x : Nat) (l : List UInt8) : Nat := l.foldl step8 x
theorem fold_nil (x : Nat) : fold x [] = x := List.foldl_nil
theorem fold_cons (x : Nat) (b : UInt8) (l : List UInt8) : fold x (b :: l) = fold (step8 x b) l := List.foldl_cons ..

theorem xor_mod (a b : Nat) : (a ^^^ b) % 2 = (a % 2 + b % 2) % 2 := by
  have := Nat.xor_mod_two_eq_one (a := a) (b := b)
  omega
theorem bit_xor (a b : Nat) : bit (a ^^^ b) = bit a ^^^ bit b := by
  unfold bit
  rcases Nat.mod_two_eq_zero_or_one a with ha | ha <;> rcases Nat.mod_two_eq_zero_or_one b with hb | hb <;>
    simp only [xor_mod, ha, hb, Nat.xor_div_two] <;> simp
  · ac_rfl
  · ac_rfl
  · have : a / 2 ^^^ 3988292384 ^^^ (b / 2 ^^^ 3988292384) = a / 2 ^^^ b / 2 ^^^ (3988292384 ^^^ 3988292384) := by ac_rfl
    rw [this]; simp
theorem bit_two (a : Nat) : bit (2 * a) = a := by
  unfold bit
  rw [if_neg (by omega)]; omega
theorem run_xor (n : Nat) : ∀ a b, run n (a ^^^ b) = run n a ^^^ run n b := by
  induction n with
  | zero => intro a b; rfl
  | succ n ih => intro a b; simp only [run, bit_xor, ih]
theorem run_zero (n : Nat) : run n 0 = 0 := by
  induction n with
  | zero => rfl
  | succ n ih => simpa [run, bit] using ih
theorem run_shift (n : Nat) : ∀ a, run n (2 ^ n * a) = a := by
  induction n with
  | zero => intro a; simp [run]
  | succ n ih =>
    intro a
    rw [run, show 2 ^ (n + 1) * a = 2 * (2 ^ n * a) by rw [Nat.pow_succ]; ac_rfl, bit_two, ih]
theorem run_add (n m : Nat) : ∀ a, run (n + m) a = run m (run n a) := by
  induction n with
  | zero => intro a; simp [run]
  | succ n ih => intro a; rw [show n + 1 + m = (n + m) + 1 by omega]; simp only [run, ih]
/-- Disjoint parts: a sum is an xor. -/
theorem split_xor (n q r : Nat) (h : r < 2 ^ n) : 2 ^ n * q + r = (2 ^ n * q) ^^^ r := by
  apply Nat.eq_of_testBit_eq
  intro i
  rw [Nat.testBit_two_pow_mul_add _ h, Nat.testBit_xor, Nat.testBit_two_pow_mul]
  by_cases hi : i < n
  · simp [hi, show ¬ n ≤ i by omega]
  · have : r.testBit i = false := Nat.testBit_lt_two_pow (Nat.lt_of_lt_of_le h (Nat.pow_le_pow_right (by omega) (by omega)))
    simp [hi, this, show n ≤ i by omega]
theorem run_split (n q r : Nat) (h : r < 2 ^ n) : run n (2 ^ n * q + r) = q ^^^ run n r := by
  rw [split_xor n q r h, run_xor, run_shift]
theorem bit_lt {k x : Nat} (hk : 32 ≤ k) (h : x < 2 ^ (k + 1)) : bit x < 2 ^ k := by
  have h2 : x / 2 < 2 ^ k := by rw [Nat.pow_succ] at h; omega
  unfold bit
  split
  · refine Nat.xor_lt_two_pow h2 (Nat.lt_of_lt_of_le (by decide : 3988292384 < 2 ^ 32) (Nat.pow_le_pow_right (by omega) hk))
  · exact h2
theorem bit_lt32 {x : Nat} (h : x < 2 ^ 32) : bit x < 2 ^ 32 := bit_lt (k := 32) (by omega) (by rw [Nat.pow_succ]; omega)
theorem run_lt32 (n : Nat) : ∀ {x : Nat}, x < 2 ^ 32 → run n x < 2 ^ 32 := by
  induction n with
  | zero => intro x h; exact h
  | succ n ih => intro x h; exact ih (bit_lt32 h)
theorem bit_eq_zero {x : Nat} (h : x < 2 ^ 32) (h0 : bit x = 0) : x = 0 := by
  unfold bit at h0
  split at h0
  · exfalso
    have : (x / 2).testBit 31 = false := Nat.testBit_lt_two_pow (by omega)
    have h1 := congrArg (fun n => Nat.testBit n 31) h0
    simp [Nat.testBit_xor, this] at h1
    revert h1; decide
  · omega
theorem run_eq_zero (n : Nat) : ∀ {x : Nat}, x < 2 ^ 32 → run n x = 0 → x = 0 := by
  induction n with
  | zero => intro x _ h0; exact h0
  | succ n ih => intro x h h0; exact bit_eq_zero h (ih (bit_lt32 h) h0)
theorem xor_eq_zero {a b : Nat} (h : a ^^^ b = 0) : a = b := by
  have : a ^^^ b ^^^ b = b := by rw [h]; simp
  simpa [Nat.xor_assoc] using this
theorem run_inj (n : Nat) {x y : Nat} (hx : x < 2 ^ 32) (hy : y < 2 ^ 32) (h : run n x = run n y) : x = y := by
  apply xor_eq_zero
  apply run_eq_zero n (Nat.xor_lt_two_pow hx hy)
  rw [run_xor, h]; simp
theorem num_lt : ∀ l : List UInt8, num l < 2 ^ (8 * l.length) := by
  intro l
  induction l with
  | nil => simp [num]
  | cons b l ih =>
    have hb : b.toNat < 256 := b.toNat_lt
    simp only [num, List.length_cons, Nat.mul_add, Nat.mul_one, Nat.pow_add]
    omega
theorem fold_eq : ∀ (l : List UInt8) (x : Nat), fold x l = run (8 * l.length) (x ^^^ num l) := by
  intro l
  induction l with
  | nil => intro x; simp [fold_nil, num, run]
  | cons b l ih =>
    intro x
    have hb : b.toNat < 2 ^ 8 := b.toNat_lt
    have hs : num (b :: l) = (2 ^ 8 * num l) ^^^ b.toNat := by
      rw [← split_xor 8 _ _ hb]; simp only [num]; omega
    rw [fold_cons, ih, step8, List.length_cons, Nat.mul_add, Nat.add_comm, run_add, hs]
    congr 1
    rw [show 8 * 1 = 8 from rfl, run_xor 8 x, run_xor 8 x, run_xor 8 (2 ^ 8 * num l), run_shift]
    ac_rfl
theorem fold_append (l k : List UInt8) : ∀ x, fold x (l ++ k) = fold (fold x l) k := by
  intro x; simp [fold, List.foldl_append]
theorem fold_lt : ∀ (l : List UInt8) (x : Nat), x < 2 ^ 32 → fold x l < 2 ^ 32 := by
  intro l
  induction l with
  | nil => intro x h; exact h
  | cons b l ih =>
    intro x h
    rw [fold_cons]
    refine ih _ (run_lt32 8 (Nat.xor_lt_two_pow h (Nat.lt_of_lt_of_le b.toNat_lt (by decide))))
theorem mod_succ (pat k : Nat) : pat % 2 ^ (k + 1) = pat % 2 ^ k ^^^ (if pat / 2 ^ k % 2 = 1 then 2 ^ k else 0) := by
  apply Nat.eq_of_testBit_eq
  intro i
  have hb : pat.testBit k = decide (pat / 2 ^ k % 2 = 1) := Nat.testBit_eq_decide_div_mod_eq
  rw [Nat.testBit_mod_two_pow, Nat.testBit_xor, Nat.testBit_mod_two_pow]
  by_cases hik : i = k
  · subst hik
    by_cases hp : pat / 2 ^ i % 2 = 1
    · simp [hb, hp, Nat.testBit_two_pow_self]
    · simp [hb, hp]
  · have h2 : (if pat / 2 ^ k % 2 = 1 then 2 ^ k else 0).testBit i = false := by
      split
      · exact Nat.testBit_two_pow_of_ne (Ne.symm hik)
      · simp
    rw [h2]
    by_cases hlt : i < k
    · simp [hlt, show i < k + 1 by omega]
    · simp [hlt, show ¬ i < k + 1 by omega]
/-- The table. -/
def tab : List Nat := [0, 498536548, 997073096, 651767980, 1994146192, 1802195444, 1303535960, 1342533948, 3988292384, 4027552580, 3604390888, 3412177804, 2607071920, 2262029012, 2685067896, 3183342108]
theorem tab_run : ∀ r, r < 16 → tab.getD r 0 = run 4 r := by decide
theorem four (x : Nat) : x / 16 ^^^ tab.getD (x % 16) 0 = run 4 x := by
  have h := run_split 4 (x / 16) (x % 16) (by omega)
  rw [show 2 ^ 4 * (x / 16) + x % 16 = x by omega] at h
  rw [h, tab_run _ (by omega)]
end Go.Proofs.YtkfipfhmbhmamaaDoor.Crc

