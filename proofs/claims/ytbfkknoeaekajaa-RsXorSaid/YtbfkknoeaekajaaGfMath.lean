/- The field of 256 elements: plain mathematics. -/
import Derived.Test.YtbfkknoeaekajaaBase
namespace Go.Proofs.Ytbfkknoeaekajaa
open Go.RowKit

namespace Gf
/-- The product of polynomials, of which the first k bits of b are taken. -/
def cl (a b : Nat) : Nat → Nat
  | 0 => 0
  | k + 1 => cl a b k ^^^ (if b.testBit k then a <<< k else 0)
/-- One step of the rest: the bit 8 + k is cleared. -/
def red1 (k p : Nat) : Nat := if p.testBit (8 + k) then p ^^^ 285 <<< k else p
/-- The rest, from the bit 8 + (k - 1) downwards. -/
def red : Nat → Nat → Nat
  | 0, p => p
  | k + 1, p => red k (red1 k p)
def mul (a b : Nat) : Nat := red 7 (cl a b 8)
def pow (a : Nat) : Nat → Nat
  | 0 => 1
  | n + 1 => mul (pow a n) a

def Lin (f : Nat → Nat) : Prop := ∀ a b, f (a ^^^ b) = f a ^^^ f b
theorem Lin.zero {f : Nat → Nat} (h : Lin f) : f 0 = 0 := by
  have := h 0 0
  rw [Nat.xor_self, Nat.xor_self] at this
  exact this
theorem Lin.comp {f g : Nat → Nat} (hf : Lin f) (hg : Lin g) : Lin fun a => f (g a) := fun a b => by
  show f (g (a ^^^ b)) = _
  rw [hg, hf]
theorem Lin.xor {f g : Nat → Nat} (hf : Lin f) (hg : Lin g) : Lin fun a => f a ^^^ g a := fun a b => by
  show f (a ^^^ b) ^^^ g (a ^^^ b) = _
  rw [hf, hg]
  apply Nat.eq_of_testBit_eq
  intro i
  simp only [Nat.testBit_xor]
  cases (f a).testBit i <;> cases (f b).testBit i <;> cases (g a).testBit i <;> cases (g b).testBit i <;> rfl
theorem lin_zero : Lin fun _ => 0 := fun _ _ => (Nat.xor_self 0).symm
theorem lin_shift (k : Nat) : Lin fun a => a <<< k := fun a b => by
  apply Nat.eq_of_testBit_eq
  intro i
  simp only [Nat.testBit_xor, Nat.testBit_shiftLeft]
  cases decide (i ≥ k) <;> simp
theorem lin_pick (c k : Nat) : Lin fun b => if b.testBit k then c else 0 := fun a b => by
  simp only [Nat.testBit_xor]
  cases a.testBit k <;> cases b.testBit k <;> simp
theorem lin_red1 (k : Nat) : Lin (red1 k) := by
  have h : red1 k = fun p => p ^^^ (if p.testBit (8 + k) then 285 <<< k else 0) := by
    funext p
    unfold red1
    split <;> simp
  rw [h]
  exact Lin.xor (fun _ _ => rfl) (lin_pick _ _)
theorem lin_red : ∀ k, Lin (red k)
  | 0 => fun _ _ => rfl
  | k + 1 => (lin_red k).comp (lin_red1 k)
theorem lin_cl_right (a : Nat) : ∀ k, Lin fun b => cl a b k
  | 0 => lin_zero
  | k + 1 => (lin_cl_right a k).xor (lin_pick _ _)
theorem lin_cl_left (b : Nat) : ∀ k, Lin fun a => cl a b k
  | 0 => lin_zero
  | k + 1 => (lin_cl_left b k).xor (by
    cases b.testBit k
    · exact lin_zero
    · exact lin_shift k)
theorem lin_mul_right (a : Nat) : Lin (mul a) := (lin_red 7).comp (lin_cl_right a 8)
theorem lin_mul_left (b : Nat) : Lin fun a => mul a b := (lin_red 7).comp (lin_cl_left b 8)

theorem lt_of_clear {a n : Nat} (h : a < 2 ^ (n + 1)) (hb : a.testBit n = false) : a < 2 ^ n := by
  apply Nat.lt_pow_two_of_testBit
  intro i hi
  rcases Nat.lt_or_ge n i with h1 | h1
  · exact Nat.testBit_lt_two_pow (Nat.lt_of_lt_of_le h (Nat.pow_le_pow_right (by omega) h1))
  · obtain rfl : i = n := by omega
    exact hb
/-- Two sums' maps that are the same at each bit are the same. -/
theorem ext {f g : Nat → Nat} (hf : Lin f) (hg : Lin g) : ∀ n, (∀ i, i < n → f (2 ^ i) = g (2 ^ i)) → ∀ a, a < 2 ^ n → f a = g a
  | 0, _, a, ha => by
    obtain rfl : a = 0 := by simpa using ha
    rw [hf.zero, hg.zero]
  | n + 1, h, a, ha => by
    cases hb : a.testBit n with
    | false => exact ext hf hg n (fun i hi => h i (by omega)) a (lt_of_clear ha hb)
    | true =>
      have h1 : a ^^^ 2 ^ n < 2 ^ n := by
        refine lt_of_clear (Nat.xor_lt_two_pow ha (Nat.pow_lt_pow_right (by omega) (by omega))) ?_
        rw [Nat.testBit_xor, hb, Nat.testBit_two_pow_self]; rfl
      have h2 : a = (a ^^^ 2 ^ n) ^^^ 2 ^ n := by rw [Nat.xor_assoc, Nat.xor_self, Nat.xor_zero]
      rw [h2, hf, hg, ext hf hg n (fun i hi => h i (by omega)) _ h1, h n (by omega)]
theorem basis_lt : ∀ i : Fin 8, ∀ j : Fin 8, mul (2 ^ i.val) (2 ^ j.val) < 256 := by decide +kernel
theorem basis_comm : ∀ i : Fin 8, ∀ j : Fin 8, mul (2 ^ i.val) (2 ^ j.val) = mul (2 ^ j.val) (2 ^ i.val) := by decide +kernel
theorem basis_assoc : ∀ i : Fin 8, ∀ j : Fin 8, ∀ k : Fin 8, mul (mul (2 ^ i.val) (2 ^ j.val)) (2 ^ k.val) = mul (2 ^ i.val) (mul (2 ^ j.val) (2 ^ k.val)) := by decide +kernel
theorem basis_one : ∀ i : Fin 8, mul (2 ^ i.val) 1 = 2 ^ i.val := by decide +kernel
theorem mul_comm {a b : Nat} (ha : a < 256) (hb : b < 256) : mul a b = mul b a := by
  refine ext (lin_mul_left b) (lin_mul_right b) 8 (fun i hi => ?_) a ha
  exact ext (lin_mul_right (2 ^ i)) (lin_mul_left (2 ^ i)) 8 (fun j hj => basis_comm ⟨i, hi⟩ ⟨j, hj⟩) b hb
theorem mul_assoc {a b c : Nat} (ha : a < 256) (hb : b < 256) (hc : c < 256) : mul (mul a b) c = mul a (mul b c) := by
  refine ext (f := fun a => mul (mul a b) c) (g := fun a => mul a (mul b c)) ((lin_mul_left c).comp (lin_mul_left b)) (lin_mul_left _) 8 (fun i hi => ?_) a ha
  refine ext (f := fun b => mul (mul (2 ^ i) b) c) (g := fun b => mul (2 ^ i) (mul b c)) ((lin_mul_left c).comp (lin_mul_right _)) ((lin_mul_right _).comp (lin_mul_left c)) 8 (fun j hj => ?_) b hb
  exact ext (f := fun c => mul (mul (2 ^ i) (2 ^ j)) c) (g := fun c => mul (2 ^ i) (mul (2 ^ j) c)) (lin_mul_right _) ((lin_mul_right _).comp (lin_mul_right _)) 8 (fun k hk => basis_assoc ⟨i, hi⟩ ⟨j, hj⟩ ⟨k, hk⟩) c hc
theorem mul_one {a : Nat} (ha : a < 256) : mul a 1 = a := ext (f := fun a => mul a 1) (g := fun a => a) (lin_mul_left 1) (fun _ _ => rfl) 8 (fun i hi => basis_one ⟨i, hi⟩) a ha
theorem mul_zero (a : Nat) : mul a 0 = 0 := (lin_mul_right a).zero
theorem zero_mul (b : Nat) : mul 0 b = 0 := (lin_mul_left b).zero
theorem one_mul {a : Nat} (ha : a < 256) : mul 1 a = a := by rw [mul_comm (by omega) ha, mul_one ha]
theorem mul_lt {a b : Nat} (ha : a < 256) (hb : b < 256) : mul a b < 256 := by
  have key : mul a b = mul a b % 256 := by
    have lin_mod : Lin fun x => x % 256 := fun x y => by
      show (x ^^^ y) % 2 ^ 8 = (x % 2 ^ 8) ^^^ (y % 2 ^ 8)
      exact Nat.xor_mod_two_pow
    refine ext (f := fun a => mul a b) (g := fun a => mul a b % 256) (lin_mul_left b) (lin_mod.comp (lin_mul_left b)) 8 (fun i hi => ?_) a ha
    refine ext (f := fun b => mul (2 ^ i) b) (g := fun b => mul (2 ^ i) b % 256) (lin_mul_right _) (lin_mod.comp (lin_mul_right _)) 8 (fun j hj => ?_) b hb
    exact (Nat.mod_eq_of_lt (basis_lt ⟨i, hi⟩ ⟨j, hj⟩)).symm
  rw [key]
  exact Nat.mod_lt _ (by decide)
theorem mul_xor (a b c : Nat) : mul a (b ^^^ c) = mul a b ^^^ mul a c := lin_mul_right a b c
theorem xor_mul (a b c : Nat) : mul (a ^^^ b) c = mul a c ^^^ mul b c := lin_mul_left c a b

theorem pow_succ (a n : Nat) : pow a (n + 1) = mul (pow a n) a := rfl
theorem pow_lt {a : Nat} (ha : a < 256) : ∀ n, pow a n < 256
  | 0 => by simp [pow]
  | n + 1 => mul_lt (pow_lt ha n) ha
theorem pow_add {a : Nat} (ha : a < 256) (m : Nat) : ∀ n, pow a (m + n) = mul (pow a m) (pow a n)
  | 0 => by rw [Nat.add_zero, pow, mul_one (pow_lt ha m)]
  | n + 1 => by rw [← Nat.add_assoc, pow, pow_add ha m n, pow, mul_assoc (pow_lt ha m) (pow_lt ha n) ha]
theorem one_pow : ∀ n, pow 1 n = 1
  | 0 => rfl
  | n + 1 => by rw [pow, one_pow n]; exact mul_one (by omega)
theorem pow_mul {a : Nat} (ha : a < 256) (m : Nat) : ∀ n, pow a (m * n) = pow (pow a m) n
  | 0 => rfl
  | n + 1 => by rw [Nat.mul_succ, pow_add ha, pow_mul ha m n, pow]
/-- a to the 254th, in few products: the inverse. -/
def sq (a : Nat) : Nat := mul a a
def inv (a : Nat) : Nat :=
  let a2 := sq a
  let a4 := sq a2
  let a8 := sq a4
  let a16 := sq a8
  let a32 := sq a16
  let a64 := sq a32
  let a128 := sq a64
  mul (mul (mul (mul (mul (mul a2 a4) a8) a16) a32) a64) a128
theorem inv_all : ∀ a : Fin 256, a.val ≠ 0 → mul a.val (inv a.val) = 1 ∧ inv a.val < 256 := by decide +kernel
theorem mul_inv {a : Nat} (ha : a < 256) (h : a ≠ 0) : mul a (inv a) = 1 := (inv_all ⟨a, ha⟩ h).1
theorem inv_lt {a : Nat} (ha : a < 256) (h : a ≠ 0) : inv a < 256 := (inv_all ⟨a, ha⟩ h).2
theorem mul_cancel {a b c : Nat} (ha : a < 256) (hb : b < 256) (hc : c < 256) (h0 : a ≠ 0) (h : mul a b = mul a c) : b = c := by
  have h1 : mul (inv a) (mul a b) = mul (inv a) (mul a c) := by rw [h]
  have hi := inv_lt ha h0
  rw [← mul_assoc hi ha hb, ← mul_assoc hi ha hc, mul_comm hi ha, mul_inv ha h0, one_mul hb, one_mul hc] at h1
  exact h1
theorem mul_eq_zero {a b : Nat} (ha : a < 256) (hb : b < 256) : mul a b = 0 ↔ a = 0 ∨ b = 0 := by
  refine ⟨fun h => ?_, fun h => ?_⟩
  · by_cases h0 : a = 0
    · exact .inl h0
    · exact .inr (mul_cancel ha hb (by omega) h0 (by rw [h, mul_zero]))
  · rcases h with rfl | rfl
    · exact zero_mul b
    · exact mul_zero a
theorem pow_ne_zero {a : Nat} (ha : a < 256) (h : a ≠ 0) : ∀ n, pow a n ≠ 0
  | 0 => by simp [pow]
  | n + 1 => fun e => by
    rw [pow, mul_eq_zero (pow_lt ha n) ha] at e
    rcases e with e | e
    · exact pow_ne_zero ha h n e
    · exact h e

/-! ### The powers of 2 -/
/-- Times 2. -/
def dbl (a : Nat) : Nat := if a < 128 then 2 * a else 2 * a ^^^ 285
def powers : Nat → Nat → List Nat
  | 0, _ => []
  | n + 1, a => a :: powers n (dbl a)
theorem dbl_eq : ∀ a : Fin 256, mul a.val 2 = dbl a.val := by decide +kernel
theorem powers_get : ∀ n k a, k < n → (powers n (pow 2 a))[k]? = some (pow 2 (a + k))
  | n + 1, 0, a, _ => rfl
  | n + 1, k + 1, a, h => by
    rw [powers, List.getElem?_cons_succ, show dbl (pow 2 a) = pow 2 (a + 1) from (dbl_eq ⟨pow 2 a, pow_lt (by omega) a⟩).symm, powers_get n k (a + 1) (by omega)]
    congr 2
    omega
theorem powers_len : ∀ n a, (powers n a).length = n
  | 0, _ => rfl
  | n + 1, a => by rw [powers, List.length_cons, powers_len n]
theorem powers_all : ∀ a : Fin 256, a.val ≠ 0 → (powers 255 1).elem a.val = true := by decide +kernel
theorem powers_apart : (powers 255 1).Nodup := by decide +kernel
theorem powers_at {k : Nat} (h : k < 255) : (powers 255 1)[k]? = some (pow 2 k) := by
  have := powers_get 255 k 0 h
  rwa [Nat.zero_add] at this
/-- Each element but 0 is a power of 2. -/
theorem log_exists {a : Nat} (ha : a < 256) (h : a ≠ 0) : ∃ n, n < 255 ∧ pow 2 n = a := by
  have hm : a ∈ powers 255 1 := List.elem_iff.1 (powers_all ⟨a, ha⟩ h)
  obtain ⟨n, hn, he⟩ := List.getElem_of_mem hm
  rw [powers_len] at hn
  refine ⟨n, hn, ?_⟩
  have h1 := powers_at hn
  rw [List.getElem?_eq_getElem (by rw [powers_len]; exact hn), he] at h1
  injection h1 with h1
  exact h1.symm
theorem pow2_inj {n m : Nat} (hn : n < 255) (hm : m < 255) (h : pow 2 n = pow 2 m) : n = m := by
  have h1 := powers_at hn
  have h2 := powers_at hm
  rw [h, ← h2] at h1
  exact (List.getElem?_inj (by rw [powers_len]; exact hn) powers_apart).1 h1
theorem pow2_254 : dbl ((powers 255 1).getD 254 0) = 1 := by decide +kernel
theorem pow2_255 : pow 2 255 = 1 := by
  have h1 := powers_at (k := 254) (by omega)
  have h2 := pow2_254
  generalize powers 255 1 = L at h1 h2
  rw [List.getD_eq_getElem?_getD, h1, Option.getD_some] at h2
  have h3 := pow_lt (a := 2) (by omega) 254
  have h4 : pow 2 255 = mul (pow 2 254) 2 := pow_succ 2 254
  rw [h4]
  generalize pow 2 254 = P at *
  exact (dbl_eq ⟨P, h3⟩).trans h2
theorem pow_255 {a : Nat} (ha : a < 256) (h : a ≠ 0) : pow a 255 = 1 := by
  obtain ⟨n, _, rfl⟩ := log_exists ha h
  rw [← pow_mul (by omega), Nat.mul_comm, pow_mul (by omega), pow2_255, one_pow]
theorem pow_most {a : Nat} (ha : a < 256) (h : a ≠ 0) : pow a 18446744073709551615 = 1 := by
  rw [show (18446744073709551615 : Nat) = 255 * 72340172838076673 from rfl, pow_mul ha, pow_255 ha h, one_pow]
theorem pow_mod {a : Nat} (ha : a < 256) (h : a ≠ 0) (n : Nat) : pow a n = pow a (n % 255) := by
  have e := Nat.div_add_mod n 255
  calc pow a n = pow a (255 * (n / 255) + n % 255) := by rw [e]
    _ = pow a (n % 255) := by rw [pow_add ha, pow_mul ha, pow_255 ha h, one_pow, one_mul (pow_lt ha _)]
theorem zero_pow : ∀ n, pow 0 (n + 1) = 0 := fun n => by rw [pow]; exact mul_zero _
end Gf
end Go.Proofs.Ytbfkknoeaekajaa
