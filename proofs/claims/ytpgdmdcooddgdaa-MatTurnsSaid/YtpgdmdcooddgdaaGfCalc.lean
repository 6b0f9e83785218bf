/- Contracts of the program's field: products of polynomials, what is left of them, Mul. -/
import Derived.Test.YtpgdmdcooddgdaaGfAddDef
import Derived.Deep.QuietTactic
import Derived.BigQuiet
namespace Go.Proofs.Ytpgdmdcooddgdaa
open Go.RowKit

theorem u16_xor_nat (a b : Nat) (ha : a < 65536) (hb : b < 65536) : bits .xor .u16 (a : Int) (b : Int) = ((a ^^^ b : Nat) : Int) := by
  have hx : a ^^^ b < 2 ^ 16 := Nat.xor_lt_two_pow (by omega) (by omega)
  have h1 : (BitVec.ofInt 16 (a : Int)).toNat = a := by rw [BitVec.ofInt_natCast, BitVec.toNat_ofNat]; exact Nat.mod_eq_of_lt (by omega)
  have h2 : (BitVec.ofInt 16 (b : Int)).toNat = b := by rw [BitVec.ofInt_natCast, BitVec.toNat_ofNat]; exact Nat.mod_eq_of_lt (by omega)
  show IntKind.u16.wrap ((BitVec.ofInt 16 (a : Int) ^^^ BitVec.ofInt 16 (b : Int)).toNat : Int) = _
  rw [BitVec.toNat_xor, h1, h2, IntKind.wrap_u16]
  omega
theorem u16_and_nat (a b : Nat) (ha : a < 65536) (hb : b < 65536) : bits .and .u16 (a : Int) (b : Int) = ((a &&& b : Nat) : Int) := by
  have hx : a &&& b < 2 ^ 16 := Nat.and_lt_two_pow _ (by omega)
  have h1 : (BitVec.ofInt 16 (a : Int)).toNat = a := by rw [BitVec.ofInt_natCast, BitVec.toNat_ofNat]; exact Nat.mod_eq_of_lt (by omega)
  have h2 : (BitVec.ofInt 16 (b : Int)).toNat = b := by rw [BitVec.ofInt_natCast, BitVec.toNat_ofNat]; exact Nat.mod_eq_of_lt (by omega)
  show IntKind.u16.wrap ((BitVec.ofInt 16 (a : Int) &&& BitVec.ofInt 16 (b : Int)).toNat : Int) = _
  rw [BitVec.toNat_and, h1, h2, IntKind.wrap_u16]
  omega
/-- The bit k, as a number. -/
theorem u16_bit (b k : Nat) (hb : b < 65536) : bits .and .u16 ((b : Int) / 2 ^ k) 1 = if b.testBit k then 1 else 0 := by
  have h : (b : Int) / 2 ^ k = ((b / 2 ^ k : Nat) : Int) := by simp only [Int.natCast_ediv, Int.natCast_pow]; rfl
  have hd : b / 2 ^ k ≤ b := Nat.div_le_self _ _
  rw [h, show (1 : Int) = ((1 : Nat) : Int) from rfl, u16_and_nat _ 1 (by omega) (by omega), Nat.and_one_is_mod, Nat.testBit_eq_decide_div_mod_eq]
  by_cases h1 : b / 2 ^ k % 2 = 1
  · simp [h1]
  · have h0 : b / 2 ^ k % 2 = 0 := by omega
    simp [h0]
/-- A number under a mask of all bits, or of none. -/
theorem u16_mask (v : Nat) (c : Bool) (hv : v < 65536) : bits .and .u16 (v : Int) (IntKind.u16.wrap (-(if c then 1 else 0))) = ((if c then v else 0 : Nat) : Int) := by
  cases c with
  | true =>
    have : IntKind.u16.wrap (-(if true = true then 1 else 0)) = ((65535 : Nat) : Int) := by rw [IntKind.wrap_u16]; rfl
    rw [this, u16_and_nat _ _ hv (by omega), show (65535 : Nat) = 2 ^ 16 - 1 from rfl, Nat.and_two_pow_sub_one_eq_mod, Nat.mod_eq_of_lt hv]
    rfl
  | false =>
    have : IntKind.u16.wrap (-(if false = true then 1 else 0)) = ((0 : Nat) : Int) := by rw [IntKind.wrap_u16]; rfl
    rw [this, u16_and_nat _ _ hv (by omega), Nat.and_zero]
    rfl
theorem shl16 (a k : Nat) (h : a * 2 ^ k < 65536) : IntKind.u16.wrap ((a : Int) * 2 ^ k) = ((a <<< k : Nat) : Int) := by
  have : (a : Int) * 2 ^ k = ((a * 2 ^ k : Nat) : Int) := by simp only [Int.natCast_mul, Int.natCast_pow]; rfl
  rw [this, IntKind.wrap_u16, Nat.shiftLeft_eq]
  omega
theorem mix_step (P a k b m : Nat) (hP : P < 65536) (ha : a * 2 ^ k < 65536) (hb : b < 65536) :
    bits .xor .u16 (P : Int) (bits .and .u16 (IntKind.u16.wrap ((a : Int) * 2 ^ k)) (IntKind.u16.wrap (-bits .and .u16 ((b : Int) / 2 ^ m) 1))) = ((P ^^^ (if b.testBit m then a <<< k else 0) : Nat) : Int) := by
  have hs : a <<< k < 65536 := by rw [Nat.shiftLeft_eq]; exact ha
  rw [shl16 a k ha, u16_bit b m hb, u16_mask _ _ hs, u16_xor_nat _ _ hP (by split <;> omega)]

set_option maxHeartbeats 1000000 in
set_option maxRecDepth 100000 in
theorem long_any (a b : Nat) (w : World) (ha : a < 256) (hb : b < 256) : Calls Try.prog 55 #[.int .u8 a, .int .u8 b] w fun e w' => e = .returned (.int .u16 (Gf.cl a b 8 : Nat)) ∧ Ext w w' := by
  go_enter Try.func55, Try.ntmps55
  go_wp2
  go_loopw [5, 7] (fun p i W => ∃ k : Nat, k ≤ 8 ∧ i = .int .i64 (k : Int) ∧ p = .int .u16 ((Gf.cl a b k : Nat) : Int) ∧ Ext w W) (fun _ i _ => 8 - (intOf i).toNat)
  case atStart => exact ⟨0, by omega, rfl, rfl, Ext.refl _⟩
  case round =>
    obtain ⟨k, hk, rfl, rfl, hE⟩ := hrel
    by_cases hlt : k < 8
    · have hk' : (k : Int) < 8 := by omega
      have hk0 : (0 : Int) ≤ (k : Int) := by omega
      have hcl := Gf.cl_lt a b ha k
      have hcl' : Gf.cl a b k < 2 ^ 16 := Nat.lt_of_lt_of_le hcl (Nat.pow_le_pow_right (by decide) (by omega))
      have hsh : a * 2 ^ k ≤ 255 * 2 ^ 7 := Nat.mul_le_mul (by omega) (Nat.pow_le_pow_right (by decide) (by omega))
      have HX := hide (mix_step (Gf.cl a b k) a k b k hcl' (by omega) (by omega))
      have HC := hide (show Gf.cl a b (k + 1) = Gf.cl a b k ^^^ (if b.testBit k then a <<< k else 0) from rfl)
      clear hcl hcl' hsh
      generalize Gf.cl a b k = P at *
      go_wp2
      go_quiet (fail)
      go_wp2
      go_roundw
      case rel => exact ⟨k + 1, by omega, by go_num, by rw [HC.out]; exact congrArg _ HX.out, hE.drewN _⟩
      case measure => simp [intOf]; omega
    · obtain rfl : k = 8 := by omega
      go_wp2
      go_ret
      exact ⟨rfl, hE⟩

theorem red1_lt16 {k q : Nat} (hk : k ≤ 7) (hq : q < 65536) : Gf.red1 k q < 65536 := by
  unfold Gf.red1
  split
  · refine Nat.xor_lt_two_pow (n := 16) hq ?_
    rw [Nat.shiftLeft_eq]
    have h2 : 285 * 2 ^ k ≤ 285 * 2 ^ 7 := Nat.mul_le_mul_left _ (Nat.pow_le_pow_right (by decide) hk)
    omega
  · exact hq
theorem red1_eq (k q : Nat) : Gf.red1 k q = q ^^^ (if q.testBit (k + 8) then 285 <<< k else 0) := by
  unfold Gf.red1
  rw [Nat.add_comm]
  split <;> simp

set_option maxHeartbeats 1000000 in
set_option maxRecDepth 100000 in
theorem reduced_any (p : Nat) (w : World) (hp : p < 2 ^ 15) (hr : Gf.red 7 p < 256) : Calls Try.prog 54 #[.int .u16 p] w fun e w' => e = .returned (.int .u8 (Gf.red 7 p : Nat)) ∧ Ext w w' := by
  have H0 := hide (show Gf.red 8 p = Gf.red 7 p by rw [Gf.red, Gf.red1, Nat.testBit_lt_two_pow hp]; rfl)
  have HL := hide hr
  clear hr
  generalize Gf.red 7 p = R at *
  go_enter Try.func54, Try.ntmps54
  go_wp2
  go_loopw [0, 3] (fun q i W => ∃ j x : Nat, j ≤ 8 ∧ i = .int .i64 ((j : Int) - 1) ∧ q = .int .u16 (x : Int) ∧ x < 65536 ∧ Gf.red j x = R ∧ Ext w W) (fun _ i _ => (intOf i + 1).toNat)
  case atStart => exact ⟨8, p, by omega, rfl, rfl, by omega, H0.out, Ext.refl _⟩
  case round =>
    obtain ⟨j, x, hj, rfl, rfl, hx, hred, hE⟩ := hrel
    rcases j with _ | j
    · obtain rfl : x = R := hred
      have hm := HL.out
      clear hx
      go_wp2
      go_ret
      exact ⟨by go_num, hE⟩
    · have hi : ((j + 1 : Nat) : Int) - 1 = (j : Int) := by omega
      rw [hi]
      have hj0 : (0 : Int) ≤ (j : Int) := by omega
      have hsh : 285 * 2 ^ j ≤ 285 * 2 ^ 7 := Nat.mul_le_mul_left _ (Nat.pow_le_pow_right (by decide) (by omega))
      have HR := hide (show Gf.red (j + 1) x = Gf.red j (Gf.red1 j x) from rfl)
      have HX := hide (mix_step x 285 j x (j + 8) hx (by omega) hx)
      have HQ := hide (red1_lt16 (k := j) (by omega) hx)
      have HR1 := hide (red1_eq j x)
      have HRed := hide hred
      clear hred hi
      go_wp2
      go_quiet (fail)
      go_wp2
      go_roundw
      case rel => exact ⟨j, Gf.red1 j x, by omega, rfl, by rw [HR1.out]; exact congrArg _ HX.out, HQ.out, by rw [← HR.out]; exact HRed.out, hE.drewN _⟩
      case measure => simp [intOf]

theorem cl8_lt {a : Nat} (b : Nat) (ha : a < 256) : Gf.cl a b 8 < 2 ^ 15 := by
  rw [Gf.cl]
  refine Nat.xor_lt_two_pow (Gf.cl_lt a b ha 7) ?_
  rw [Nat.shiftLeft_eq]
  split <;> omega

set_option maxHeartbeats 1000000 in
set_option maxRecDepth 100000 in
theorem mul_any (a b : Nat) (w : World) (ha : a < 256) (hb : b < 256) : Calls Try.prog 52 #[.int .u8 a, .int .u8 b] w fun e w' => e = .returned (.int .u8 (Gf.mul a b : Nat)) ∧ Ext w w' := by
  have C1 := long_any a b w ha hb
  have C2 := fun W => reduced_any (Gf.cl a b 8) W (cl8_lt b ha) (Gf.mul_lt ha hb)
  have HM := hide (show Gf.mul a b = Gf.red 7 (Gf.cl a b 8) from rfl)
  generalize Gf.cl a b 8 = P at *
  go_enter Try.func52, Try.ntmps52
  go_wp2_with fail
  refine C1.mono ?_
  rintro e w1 ⟨rfl, hE1⟩
  go_wp2_with fail
  refine (C2 w1).mono ?_
  rintro e w2 ⟨rfl, hE2⟩
  go_wp2
  go_ret
  exact ⟨by rw [HM.out]; rfl, hE1.trans hE2⟩

theorem dbl_all : ∀ a : Fin 256, bits .xor .u16 ((a.val : Int) * 2) (bits .and .u16 285 (IntKind.u16.wrap (-((a.val : Int) * 2 / 256)))) % 256 = ((Gf.mul a.val 2 : Nat) : Int) := by decide +kernel

set_option maxHeartbeats 1000000 in
set_option maxRecDepth 100000 in
theorem doubled_any (a : Nat) (w : World) (ha : a < 256) : Calls Try.prog 56 #[.int .u8 a] w fun e w' => e = .returned (.int .u8 (Gf.mul a 2 : Nat)) ∧ Ext w w' := by
  have H := hide (dbl_all ⟨a, ha⟩)
  go_enter Try.func56, Try.ntmps56
  go_wp2
  go_ret
  exact ⟨congrArg (fun x => Ending.returned (.int .u8 x)) H.out, Ext.refl _⟩
end Go.Proofs.Ytpgdmdcooddgdaa
