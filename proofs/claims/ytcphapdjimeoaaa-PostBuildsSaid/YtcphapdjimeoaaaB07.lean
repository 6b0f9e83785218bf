/- Contracts of the library's LeadingZeros8 and of the row's zerosFrom. Contracts of the reader: NewReader, Left, Get, Skip, Peek, Unary, Pad. Contracts of the reader: Peek, Unary, Pad, NewReader. -/
import Derived.Test.YtcphapdjimeoaaaB01
import Derived.Test.YtcphapdjimeoaaaB03
import Derived.Test.YtcphapdjimeoaaaB04
import Derived.Test.YtcphapdjimeoaaaB06
import Derived.Deep.QuietTactic
import Derived.BigQuiet
import Derived.Lib.BitFns
import Derived.Laws.Tables
namespace Go.Proofs.Ytcphapdjimeoaaa
open Go.RowKit

namespace Bit
/-- How many bits 0 stand ahead of a byte's first 1. -/
def lz (r : Nat) : Nat := 7 - r.log2
/-- A byte shifted up by s. -/
def up (c : UInt8) (s : Nat) : UInt8 := UInt8.ofNat (c.toNat * 2 ^ s)
theorem up_bit (c : UInt8) (s i : Nat) (hi : i < 8) (h : s + i < 8) : (up c s).toNat.testBit (7 - i) = c.toNat.testBit (7 - (s + i)) := by
  unfold up
  rw [UInt8.toNat_ofNat', Nat.testBit_mod_two_pow, decide_eq_true (show 7 - i < 8 by omega), Bool.true_and, Nat.testBit_mul_two_pow, decide_eq_true (show s ≤ 7 - i by omega), Bool.true_and]
  congr 1
  omega
theorem up_bit_low (c : UInt8) (s i : Nat) (hi : i < 8) (h : 8 ≤ s + i) : (up c s).toNat.testBit (7 - i) = false := by
  unfold up
  rw [UInt8.toNat_ofNat', Nat.testBit_mod_two_pow, Nat.testBit_mul_two_pow, decide_eq_false (show ¬ s ≤ 7 - i by omega)]
  simp
theorem lz_facts (r : UInt8) (h : r.toNat ≠ 0) : lz r.toNat < 8 ∧ (∀ i, i < lz r.toNat → r.toNat.testBit (7 - i) = false) ∧ r.toNat.testBit (7 - lz r.toNat) = true := by
  have hr := r.toNat_lt
  have h8 : r.toNat.log2 < 8 := (Nat.log2_lt h).2 hr
  unfold lz
  refine ⟨by omega, fun i hi => ?_, ?_⟩
  · apply Nat.testBit_lt_two_pow
    have h1 : r.toNat.log2 < 7 - i := by omega
    exact (Nat.log2_lt h).1 h1
  · rw [show 7 - (7 - r.toNat.log2) = r.toNat.log2 by omega]
    exact Nat.testBit_log2 h
end Bit

theorem shl_byte (c : UInt8) (s : Nat) : ((c.toNat : Int) * 2 ^ s) % 256 = ((Bit.up c s).toNat : Int) := by
  unfold Bit.up
  rw [UInt8.toNat_ofNat']
  simp only [Int.natCast_emod, Int.natCast_mul, Int.natCast_pow]
  rfl

theorem bitLen_log2 : ∀ n : Fin 256, n.val ≠ 0 → Lib.bitLen n.val = n.val.log2 + 1 := by decide +kernel
end Go.Proofs.Ytcphapdjimeoaaa

namespace Go.Proofs.Ytcphapdjimeoaaa
open Go.RowKit

namespace Bit
def rest (l : List UInt8) (q : Nat) : Nat → Bool := fun i => at_ l (q + i)
def getErr (left : Nat) (n : Int) : Int := if 0 ≤ n ∧ n ≤ 64 then (if n ≤ left then 0 else 1) else 13
def getNum (l : List UInt8) (q : Nat) (n : Int) : Nat := if getErr (8 * l.length - q) n = 0 then val (rest l q) n.toNat else 0
def getTo (left q : Nat) (n : Int) : Nat := if getErr left n = 0 then q + n.toNat else q
def skipErr (left : Nat) (n : Int) : Int := if 0 ≤ n then (if n ≤ left then 0 else 1) else 13
def skipTo (left q : Nat) (n : Int) : Nat := if skipErr left n = 0 then q + n.toNat else q
def peekThere (left : Nat) (n : Int) : Nat := if 0 ≤ n ∧ n ≤ 64 then min n.toNat left else 0
def peekNum (l : List UInt8) (q : Nat) (n : Int) : Nat := if 0 ≤ n ∧ n ≤ 64 then val (rest l q) (min n.toNat (8 * l.length - q)) * 2 ^ (n.toNat - min n.toNat (8 * l.length - q)) else 0
def zs (l : List UInt8) (q : Nat) : Nat := zeros (8 * l.length - q) (rest l q)
def unErr (l : List UInt8) (q : Nat) : Int := if zs l q = 8 * l.length - q then 1 else 0
def unNum (l : List UInt8) (q : Nat) : Nat := if zs l q = 8 * l.length - q then 0 else zs l q
def unTo (l : List UInt8) (q : Nat) : Nat := if zs l q = 8 * l.length - q then q else q + zs l q + 1
def padErr (l : List UInt8) (q : Nat) : Int := if 8 * l.length - q < 8 ∧ zs l q = 8 * l.length - q then 0 else 2
end Bit

theorem ret_nverr {k : IntKind} {a a' b b' : Int} (h : a = a') (h' : b = b') : Ending.returned (.tuple #[.int k a, .int .i64 b]) = .returned (.tuple #[.int k a', .int .i64 b']) := by rw [h, h']

end Go.Proofs.Ytcphapdjimeoaaa

namespace Go.Proofs.Ytcphapdjimeoaaa
open Go.RowKit

theorem Bit.val_mul_lt (f : Nat → Bool) {a b : Nat} (h : a + b ≤ 64) : Bit.val f a * 2 ^ b < 18446744073709551616 := by
  have h1 : Bit.val f a * 2 ^ b < 2 ^ a * 2 ^ b := Nat.mul_lt_mul_of_pos_right (Bit.val_lt f a) (Nat.two_pow_pos b)
  rw [← Nat.pow_add] at h1
  exact Nat.lt_of_lt_of_le h1 (show 2 ^ (a + b) ≤ 2 ^ 64 from Nat.pow_le_pow_right (by omega) h)
theorem wrap_shl (X b : Nat) (h : X * 2 ^ b < 18446744073709551616) : IntKind.u64.wrap ((X : Int) * 2 ^ b) = ((X * 2 ^ b : Nat) : Int) := by
  have e : (X : Int) * 2 ^ b = ((X * 2 ^ b : Nat) : Int) := by simp only [Int.natCast_mul, Int.natCast_pow]; rfl
  rw [e, IntKind.wrap_u64]
  omega

end Go.Proofs.Ytcphapdjimeoaaa

