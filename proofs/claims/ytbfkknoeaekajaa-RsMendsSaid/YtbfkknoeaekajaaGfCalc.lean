/- Contracts of the program's field: products of polynomials, what is left of them, Mul. Contracts of the program's field: Pow, Inv, Div, Log. -/
import Derived.Test.YtbfkknoeaekajaaGfAddDef
import Derived.Deep.QuietTactic
import Derived.BigQuiet
import Derived.WalkSmall
namespace Go.Proofs.Ytbfkknoeaekajaa
open Go.RowKit

theorem u16_xor_nat (a b : Nat) (ha : a < 65536) (hb : b < 65536) : bits .xor .u16 (a : Int) (b : Int) = ((a ^^^ b : Nat) : Int) := by
  have hx : a ^^^ b < 2 ^ 16 := Nat.xor_lt_two_pow (by omega) (by omega)
  have h1 : (BitVec.ofInt 16 (a : Int)).toNat = a := by rw [BitVec.ofInt_natCast, BitVec.toNat_ofNat]; exact Nat.mod_eq_of_lt (by omega)
  have h2 : (BitVec.ofInt 16 (b : Int)).toNat = b := by rw [BitVec.ofInt_natCast, BitVec.toNat_ofNat]; exact Nat.mod_eq_of_lt (by omega)
  show IntKind.u16.wrap ((BitVec.ofInt 16 (a : Int) ^^^ BitVec.ofInt 16 (b : Int)).toNat : Int) = _
  rw [BitVec.toNat_xor, h1, h2, IntKind.wrap_u16]
  omega
theorem u16_and_nat (a b : Nat) (ha : a < 65536) (hb : b < 65536) : bits .and .u16 (a : Int) (b : Int) = ((a &&& b : Nat) : Int) := by
  have hx : a &&& b < 2 ^ 16 := Nat.and_lt_two_pow _ (by omega)
  have h1 : (BitVec.ofInt 16 (a : Int)).toNat = a := by rw [BitVec.ofInt_natCast, BitVec.toNat_ofNat]; exact Nat.mod_eq_of_lt (by omega)
  have h2 : (BitVec.ofInt 16 (b : Int)).toNat = b := by rw [BitVec.ofInt_natCast, BitVec.toNat_ofNat]; exact Nat.mod_eq_of_lt (by omega)
  show IntKind.u16.wrap ((BitVec.ofInt 16 (a : Int) &&& BitVec.ofInt 16 (b : Int)).toNat : Int) = _
  rw [BitVec.toNat_and, h1, h2, IntKind.wrap_u16]
  omega
/-- The bit k, as a number. -/
theorem u16_bit (b k : Nat) (hb : b < 65536) : bits .and .u16 ((b : Int) / 2 ^ k) 1 = if b.testBit k then 1 else 0 := by
  have h : (b : Int) / 2 ^ k = ((b / 2 ^ k : Nat) : Int) := by simp only [Int.natCast_ediv, Int.natCast_pow]; rfl
  have hd : b / 2 ^ k ≤ b := Nat.div_le_self _ _
  rw [h, show (1 : Int) = ((1 : Nat) : Int) from rfl, u16_and_nat _ 1 (by omega) (by omega), Nat.and_one_is_mod, Nat.testBit_eq_decide_div_mod_eq]
  by_cases h1 : b / 2 ^ k % 2 = 1
  · simp [h1]
  · have h0 : b / 2 ^ k % 2 = 0 := by omega
    simp [h0]
/-- A number under a mask of all bits, or of none. -/
theorem u16_mask (v : Nat) (c : Bool) (hv : v < 65536) : bits .and .u16 (v : Int) (IntKind.u16.wrap (-(if c then 1 else 0))) = ((if c then v else 0 : Nat) : Int) := by
  cases c with
  | true =>
    have : IntKind.u16.wrap (-(if true = true then 1 else 0)) = ((65535 : Nat) : Int) := by rw [IntKind.wrap_u16]; rfl
    rw [this, u16_and_nat _ _ hv (by omega), show (65535 : Nat) = 2 ^ 16 - 1 from rfl, Nat.and_two_pow_sub_one_eq_mod, Nat.mod_eq_of_lt hv]
    rfl
  | false =>
    have : IntKind.u16.wrap (-(if false = true then 1 else 0)) = ((0 : Nat) : Int) := by rw [IntKind.wrap_u16]; rfl
    rw [this, u16_and_nat _ _ hv (by omega), Nat.and_zero]
    rfl
theorem shl16 (a k : Nat) (h : a * 2 ^ k < 65536) : IntKind.u16.wrap ((a : Int) * 2 ^ k) = ((a <<< k : Nat) : Int) := by
  have : (a : Int) * 2 ^ k = ((a * 2 ^ k : Nat) : Int) := by simp only [Int.natCast_mul, Int.natCast_pow]; rfl
  rw [this, IntKind.wrap_u16, Nat.shiftLeft_eq]
  omega
theorem mix_step (P a k b m : Nat) (hP : P < 65536) (ha : a * 2 ^ k < 65536) (hb : b < 65536) :
    bits .xor .u16 (P : Int) (bits .and .u16 (IntKind.u16.wrap ((a : Int) * 2 ^ k)) (IntKind.u16.wrap (-bits .and .u16 ((b : Int) / 2 ^ m) 1))) = ((P ^^^ (if b.testBit m then a <<< k else 0) : Nat) : Int) := by
  have hs : a <<< k < 65536 := by rw [Nat.shiftLeft_eq]; exact ha
  rw [shl16 a k ha, u16_bit b m hb, u16_mask _ _ hs, u16_xor_nat _ _ hP (by split <;> omega)]

set_option maxHeartbeats 1000000 in
set_option maxRecDepth 100000 in
theorem long_any (a b : Nat) (w : World) (ha : a < 256) (hb : b < 256) : Calls Try.prog 75 #[.int .u8 a, .int .u8 b] w fun e w' => e = .returned (.int .u16 (Gf.cl a b 8 : Nat)) ∧ Ext w w' := by
  go_enter Try.func75, Try.ntmps75
  go_wp2
  go_loopw [5, 7] (fun p i W => ∃ k : Nat, k ≤ 8 ∧ i = .int .i64 (k : Int) ∧ p = .int .u16 ((Gf.cl a b k : Nat) : Int) ∧ Ext w W) (fun _ i _ => 8 - (intOf i).toNat)
  case atStart => exact ⟨0, by omega, rfl, rfl, Ext.refl _⟩
  case round =>
    obtain ⟨k, hk, rfl, rfl, hE⟩ := hrel
    by_cases hlt : k < 8
    · have hk' : (k : Int) < 8 := by omega
      have hk0 : (0 : Int) ≤ (k : Int) := by omega
      have hcl := Gf.cl_lt a b ha k
      have hcl' : Gf.cl a b k < 2 ^ 16 := Nat.lt_of_lt_of_le hcl (Nat.pow_le_pow_right (by decide) (by omega))
      have hsh : a * 2 ^ k ≤ 255 * 2 ^ 7 := Nat.mul_le_mul (by omega) (Nat.pow_le_pow_right (by decide) (by omega))
      have HX := hide (mix_step (Gf.cl a b k) a k b k hcl' (by omega) (by omega))
      have HC := hide (show Gf.cl a b (k + 1) = Gf.cl a b k ^^^ (if b.testBit k then a <<< k else 0) from rfl)
      clear hcl hcl' hsh
      generalize Gf.cl a b k = P at *
      go_wp2
      go_quiet (fail)
      go_wp2
      go_roundw
      case rel => exact ⟨k + 1, by omega, by go_num, by rw [HC.out]; exact congrArg _ HX.out, hE.drewN _⟩
      case measure => simp [intOf]; omega
    · obtain rfl : k = 8 := by omega
      go_wp2
      go_ret
      exact ⟨rfl, hE⟩

theorem red1_lt16 {k q : Nat} (hk : k ≤ 7) (hq : q < 65536) : Gf.red1 k q < 65536 := by
  unfold Gf.red1
  split
  · refine Nat.xor_lt_two_pow (n := 16) hq ?_
    rw [Nat.shiftLeft_eq]
    have h2 : 285 * 2 ^ k ≤ 285 * 2 ^ 7 := Nat.mul_le_mul_left _ (Nat.pow_le_pow_right (by decide) hk)
    omega
  · exact hq
theorem red1_eq (k q : Nat) : Gf.red1 k q = q ^^^ (if q.testBit (k + 8) then 285 <<< k else 0) := by
  unfold Gf.red1
  rw [Nat.add_comm]
  split <;> simp

set_option maxHeartbeats 1000000 in
set_option maxRecDepth 100000 in
theorem reduced_any (p : Nat) (w : World) (hp : p < 2 ^ 15) (hr : Gf.red 7 p < 256) : Calls Try.prog 74 #[.int .u16 p] w fun e w' => e = .returned (.int .u8 (Gf.red 7 p : Nat)) ∧ Ext w w' := by
  have H0 := hide (show Gf.red 8 p = Gf.red 7 p by rw [Gf.red, Gf.red1, Nat.testBit_lt_two_pow hp]; rfl)
  have HL := hide hr
  clear hr
  generalize Gf.red 7 p = R at *
  go_enter Try.func74, Try.ntmps74
  go_wp2
  go_loopw [0, 3] (fun q i W => ∃ j x : Nat, j ≤ 8 ∧ i = .int .i64 ((j : Int) - 1) ∧ q = .int .u16 (x : Int) ∧ x < 65536 ∧ Gf.red j x = R ∧ Ext w W) (fun _ i _ => (intOf i + 1).toNat)
  case atStart => exact ⟨8, p, by omega, rfl, rfl, by omega, H0.out, Ext.refl _⟩
  case round =>
    obtain ⟨j, x, hj, rfl, rfl, hx, hred, hE⟩ := hrel
    rcases j with _ | j
    · obtain rfl : x = R := hred
      have hm := HL.out
      clear hx
      go_wp2
      go_ret
      exact ⟨by go_num, hE⟩
    · have hi : ((j + 1 : Nat) : Int) - 1 = (j : Int) := by omega
      rw [hi]
      have hj0 : (0 : Int) ≤ (j : Int) := by omega
      have hsh : 285 * 2 ^ j ≤ 285 * 2 ^ 7 := Nat.mul_le_mul_left _ (Nat.pow_le_pow_right (by decide) (by omega))
      have HR := hide (show Gf.red (j + 1) x = Gf.red j (Gf.red1 j x) from rfl)
      have HX := hide (mix_step x 285 j x (j + 8) hx (by omega) hx)
      have HQ := hide (red1_lt16 (k := j) (by omega) hx)
      have HR1 := hide (red1_eq j x)
      have HRed := hide hred
      clear hred hi
      go_wp2
      go_quiet (fail)
      go_wp2
      go_roundw
      case rel => exact ⟨j, Gf.red1 j x, by omega, rfl, by rw [HR1.out]; exact congrArg _ HX.out, HQ.out, by rw [← HR.out]; exact HRed.out, hE.drewN _⟩
      case measure => simp [intOf]

theorem cl8_lt {a : Nat} (b : Nat) (ha : a < 256) : Gf.cl a b 8 < 2 ^ 15 := by
  rw [Gf.cl]
  refine Nat.xor_lt_two_pow (Gf.cl_lt a b ha 7) ?_
  rw [Nat.shiftLeft_eq]
  split <;> omega

set_option maxHeartbeats 1000000 in
set_option maxRecDepth 100000 in
theorem mul_any (a b : Nat) (w : World) (ha : a < 256) (hb : b < 256) : Calls Try.prog 69 #[.int .u8 a, .int .u8 b] w fun e w' => e = .returned (.int .u8 (Gf.mul a b : Nat)) ∧ Ext w w' := by
  have C1 := long_any a b w ha hb
  have C2 := fun W => reduced_any (Gf.cl a b 8) W (cl8_lt b ha) (Gf.mul_lt ha hb)
  have HM := hide (show Gf.mul a b = Gf.red 7 (Gf.cl a b 8) from rfl)
  generalize Gf.cl a b 8 = P at *
  go_enter Try.func69, Try.ntmps69
  go_wp2_with fail
  refine C1.mono ?_
  rintro e w1 ⟨rfl, hE1⟩
  go_wp2_with fail
  refine (C2 w1).mono ?_
  rintro e w2 ⟨rfl, hE2⟩
  go_wp2
  go_ret
  exact ⟨by rw [HM.out]; rfl, hE1.trans hE2⟩

theorem dbl_all : ∀ a : Fin 256, bits .xor .u16 ((a.val : Int) * 2) (bits .and .u16 285 (IntKind.u16.wrap (-((a.val : Int) * 2 / 256)))) % 256 = ((Gf.mul a.val 2 : Nat) : Int) := by decide +kernel

set_option maxHeartbeats 1000000 in
set_option maxRecDepth 100000 in
theorem doubled_any (a : Nat) (w : World) (ha : a < 256) : Calls Try.prog 70 #[.int .u8 a] w fun e w' => e = .returned (.int .u8 (Gf.mul a 2 : Nat)) ∧ Ext w w' := by
  have H := hide (dbl_all ⟨a, ha⟩)
  go_enter Try.func70, Try.ntmps70
  go_wp2
  go_ret
  exact ⟨congrArg (fun x => Ending.returned (.int .u8 x)) H.out, Ext.refl _⟩
end Go.Proofs.Ytbfkknoeaekajaa

namespace Go.Proofs.Ytbfkknoeaekajaa
open Go.RowKit

namespace Gf
theorem pow_sq {x : Nat} (hx : x < 256) (h : Nat) : pow (mul x x) h = pow x (2 * h) := by
  rw [pow_mul hx, show pow x 2 = mul x x by show mul (mul 1 x) x = _; rw [one_mul hx]]
theorem step_odd {x p m : Nat} (hx : x < 256) (hp : p < 256) (h1 : m % 2 = 1) : mul (mul p x) (pow (mul x x) (m / 2)) = mul p (pow x m) := by
  rw [pow_sq hx, mul_assoc hp hx (pow_lt hx _), show m = 1 + 2 * (m / 2) by omega, pow_add hx, show pow x 1 = x by show mul 1 x = x; rw [one_mul hx]]
  congr 4
  omega
theorem step_even {x p m : Nat} (hx : x < 256) (h1 : m % 2 = 0) : mul p (pow (mul x x) (m / 2)) = mul p (pow x m) := by
  rw [pow_sq hx, show 2 * (m / 2) = m by omega]
end Gf

set_option maxHeartbeats 1000000 in
set_option maxRecDepth 100000 in
theorem pow_any (a n : Nat) (w : World) (ha : a < 256) (hn : n < 18446744073709551616) : Calls Try.prog 64 #[.int .u8 a, .int .u64 n] w fun e w' => e = .returned (.int .u8 (Gf.pow a n : Nat)) ∧ Ext w w' := by
  obtain ⟨R, hR⟩ : ∃ R, R = Gf.pow a n := ⟨_, rfl⟩
  have HS := hide (show Gf.mul 1 (Gf.pow a n) = R by rw [hR]; exact Gf.one_mul (Gf.pow_lt ha n))
  rw [← hR]
  clear hR
  go_enter Try.func64, Try.ntmps64
  go_wp2
  go_loopw [0, 1, 5] (fun x m p W => ∃ y k q : Nat, y < 256 ∧ q < 256 ∧ k < 18446744073709551616 ∧ x = .int .u8 (y : Int) ∧ m = .int .u64 (k : Int) ∧ p = .int .u8 (q : Int) ∧ Gf.mul q (Gf.pow y k) = R ∧ Ext w W) (fun _ m _ _ => (intOf m).toNat)
  case atStart => exact ⟨a, n, 1, ha, by omega, hn, rfl, rfl, rfl, HS.out, Ext.refl _⟩
  case round =>
    obtain ⟨y, k, q, hy, hq, hk, rfl, rfl, rfl, hR, hE⟩ := hrel
    by_cases h0 : k = 0
    · subst h0
      have HR := hide hR
      clear hR
      go_wp2
      go_ret
      exact ⟨congrArg (fun x : Nat => Ending.returned (.int .u8 (x : Int))) ((Gf.mul_one hq).symm.trans HR.out), hE⟩
    · have h0' : 0 < k := by omega
      have HK := hide (show k / 2 < 18446744073709551616 by omega)
      · have C2 := fun W => mul_any y y W hy hy
        have hdiv : ((k : Int) / 2) = ((k / 2 : Nat) : Int) := by omega
        have HY := hide (Gf.mul_lt hy hy)
        have hand := and_one_u64 (k : Int) (by omega) (by omega)
        by_cases h1 : k % 2 = 1
        · have hodd : (bits .and .u64 (k : Int) 1 == 1) = true := by rw [hand]; simp; omega
          have C1 := fun W => mul_any q y W hq hy
          have HP := hide (Gf.mul_lt hq hy)
          have HR := hide ((Gf.step_odd hy hq h1).trans hR)
          clear hR hand
          generalize Gf.mul y y = y2 at *
          generalize Gf.mul q y = qy at *
          have Hd := hide hdiv
          clear h0 h1 hk hdiv
          go_wp2_with fail
          refine (C1 _).mono ?_
          rintro e w1 ⟨rfl, hE1⟩
          go_wp2_with fail
          refine (C2 _).mono ?_
          rintro e w2 ⟨rfl, hE2⟩
          go_wp2
          go_roundw
          case rel => exact ⟨y2, k / 2, qy, HY.out, HP.out, HK.out, rfl, congrArg (Value.int .u64) Hd.out, rfl, HR.out, (hE.trans hE1).trans hE2⟩
          case measure => simp [intOf]; omega
        · have hodd : (bits .and .u64 (k : Int) 1 == 1) = false := by rw [hand]; simp; omega
          have HR := hide ((Gf.step_even (p := q) hy (by omega : k % 2 = 0)).trans hR)
          clear hR hand
          generalize Gf.mul y y = y2 at *
          have Hd := hide hdiv
          clear h0 h1 hk hdiv
          go_wp2_with fail
          refine (C2 _).mono ?_
          rintro e w2 ⟨rfl, hE2⟩
          go_wp2
          go_roundw
          case rel => exact ⟨y2, k / 2, q, HY.out, hq, HK.out, rfl, congrArg (Value.int .u64) Hd.out, rfl, HR.out, hE.trans hE2⟩
          case measure => simp [intOf]; omega

theorem pow_254 {a : Nat} (ha : a < 256) (h : a ≠ 0) : Gf.pow a 254 = Gf.inv a := by
  refine Gf.inv_only ha (Gf.pow_lt ha _) h ?_
  rw [Gf.mul_comm ha (Gf.pow_lt ha _)]
  exact Gf.pow_255 ha h
set_option maxHeartbeats 1000000 in
set_option maxRecDepth 100000 in
theorem inv_any (a : Nat) (w : World) (ha : a < 256) : Calls Try.prog 54 #[.int .u8 a] w fun e w' => e = .returned (.tuple #[.int .u8 (((Gf.invR a).1 : Nat) : Int), .int .i64 (Gf.invR a).2]) ∧ Ext w w' := by
  have HR := hide (show Gf.invR a = if a = 0 then (0, 13) else (Gf.inv a, 0) from rfl)
  by_cases h0 : a = 0
  · subst h0
    go_enter Try.func54, Try.ntmps54
    go_wp2
    go_ret2
    exact ⟨ret_u8err (by rw [HR.out, if_pos trivial]), Ext.refl _⟩
  · have h0' : ((a : Int) == 0) = false := by simp; omega
    have C := fun W => pow_any a 254 W ha (by omega)
    rw [pow_254 ha h0] at C
    have H0 := hide h0
    clear h0
    go_enter Try.func54, Try.ntmps54
    go_wp2_with fail
    refine (C _).mono ?_
    rintro e w1 ⟨rfl, hE1⟩
    go_wp2
    go_ret2
    exact ⟨ret_u8err (by rw [HR.out, if_neg H0.out]), hE1⟩
end Go.Proofs.Ytbfkknoeaekajaa
