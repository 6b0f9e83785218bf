/- What Add and Dot tell. The products of one element, as an array. Contracts of the program's field: products of polynomials, what is left of them, Mul. Contracts of the program's field: Pow, Inv, Div, Log. Contract of the program's Row. Contracts of the program's Add and Dot. -/
import Derived.Test.YtkfipfhmbhmamaaDoorB03
import Derived.Test.YtkfipfhmbhmamaaDoorB05
import Derived.Deep.QuietTactic
import Derived.BigQuiet
import Derived.OpenShut
import Derived.WalkSmall
import Derived.Laws.OwnMore
namespace Go.Proofs.YtkfipfhmbhmamaaDoor
open Go.RowKit

namespace Gf
/-- The first k bytes of what Add tells. -/
def addN (to : List UInt8) (c : Nat) (b : List UInt8) : Nat → List UInt8
  | 0 => []
  | k + 1 => addN to c b k ++ [to.getD k 0 ^^^ UInt8.ofNat (mul c (b.getD k 0).toNat)]
theorem addN_len (to : List UInt8) (c : Nat) (b : List UInt8) : ∀ k, (addN to c b k).length = k
  | 0 => rfl
  | k + 1 => by rw [addN, List.length_append, addN_len]; rfl
def addR (to : List UInt8) (c : Nat) (b : List UInt8) : List UInt8 × Int := if to.length = b.length then (addN to c b b.length, 0) else ([], 13)
/-- The sum of the first k products. -/
def dotN (a b : List UInt8) : Nat → Nat
  | 0 => 0
  | k + 1 => dotN a b k ^^^ mul (a.getD k 0).toNat (b.getD k 0).toNat
theorem dotN_lt (a b : List UInt8) : ∀ k, dotN a b k < 256
  | 0 => by simp [dotN]
  | k + 1 => by
    rw [dotN]
    exact Nat.xor_lt_two_pow (n := 8) (dotN_lt a b k) (mul_lt (UInt8.toNat_lt _) (UInt8.toNat_lt _))
def dotR (a b : List UInt8) : Nat × Int := if a.length = b.length then (dotN a b a.length, 0) else (0, 13)
end Gf
theorem ret_verr2 {v : Value} {a : Int} {r : List UInt8 × Int} (h : r.2 = a) : Ending.returned (.tuple #[v, .int .i64 a]) = .returned (.tuple #[v, .int .i64 r.2]) := by rw [h]
/-- Behind a call that makes bytes, or tells an error. -/
def MadeR (w : World) (r : List UInt8 × Int) (e : Ending) (w' : World) : Prop := ∃ v, e = .returned (.tuple #[v, .int .i64 r.2]) ∧ OwnB w' w.heap.size v r.1 ∧ Ext w w'
theorem u8_xor_byteN (x : UInt8) (m : Nat) (hm : m < 256) : bits .xor .u8 (x.toNat : Int) (m : Int) = (((x ^^^ UInt8.ofNat m).toNat : Nat) : Int) := by
  rw [u8_xor_nat _ _ x.toNat_lt hm, UInt8.toNat_xor, UInt8.toNat_ofNat', Nat.mod_eq_of_lt hm]
end Go.Proofs.YtkfipfhmbhmamaaDoor

namespace Go.Proofs.YtkfipfhmbhmamaaDoor
open Go.RowKit

/-- The products of c, as an array. -/
def Gf.rowV (c : Nat) : Array Value := ((List.range 256).map fun i => Value.int .u8 ((Gf.mul c i : Nat) : Int)).toArray
theorem Gf.rowV_size (c : Nat) : (Gf.rowV c).size = 256 := by simp [Gf.rowV]
theorem Gf.rowV_at (c : Nat) {i : Nat} (hi : i < 256) : (Gf.rowV c)[i]? = some (.int .u8 ((Gf.mul c i : Nat) : Int)) := by simp [Gf.rowV, hi]
theorem Gf.rowV_one (c : Nat) : (Gf.rowV c).all (·.oneCell') = true := by
  simp [Gf.rowV]
  intros
  rfl
theorem row_zero : ∃ Z : Array Value, Z.size = 256 ∧ ∀ W : World, (zeroValue 97).run Tryd.prog W = .ok (.agg Z) W := by
  refine ⟨Array.replicate 256 (.int .u8 0), by simp, fun W => ?_⟩
  have h : (Tryd.prog.info? 97).map (fun i => i.zero) = some (some (.agg (Array.replicate 256 (.int .u8 0)))) := by kernel_rfl
  obtain ⟨i, hi, hz⟩ := Option.map_eq_some_iff.1 h
  simp [zeroValue, typeInfo, hi, hz]
theorem row_info : (Tryd.prog.info? 97).map (·.size) = some 256 := by kernel_rfl
end Go.Proofs.YtkfipfhmbhmamaaDoor

namespace Go.Proofs.YtkfipfhmbhmamaaDoor
open Go.RowKit

theorem u16_xor_nat (a b : Nat) (ha : a < 65536) (hb : b < 65536) : bits .xor .u16 (a : Int) (b : Int) = ((a ^^^ b : Nat) : Int) := by
  have hx : a ^^^ b < 2 ^ 16 := Nat.xor_lt_two_pow (by omega) (by omega)
  have h1 : (BitVec.ofInt 16 (a : Int)).toNat = a := by rw [BitVec.ofInt_natCast, BitVec.toNat_ofNat]; exact Nat.mod_eq_of_lt (by omega)
  have h2 : (BitVec.ofInt 16 (b : Int)).toNat = b := by rw [BitVec.ofInt_natCast, BitVec.toNat_ofNat]; exact Nat.mod_eq_of_lt (by omega)
  show IntKind.u16.wrap ((BitVec.ofInt 16 (a : Int) ^^^ BitVec.ofInt 16 (b : Int)).toNat : Int) = _
  rw [BitVec.toNat_xor, h1, h2, IntKind.wrap_u16]
  omega
theorem u16_and_nat (a b : Nat) (ha : a < 65536) (hb : b < 65536) : bits .and .u16 (a : Int) (b : Int) = ((a &&& b : Nat) : Int) := by
  have hx : a &&& b < 2 ^ 16 := Nat.and_lt_two_pow _ (by omega)
  have h1 : (BitVec.ofInt 16 (a : Int)).toNat = a := by rw [BitVec.ofInt_natCast, BitVec.toNat_ofNat]; exact Nat.mod_eq_of_lt (by omega)
  have h2 : (BitVec.ofInt 16 (b : Int)).toNat = b := by rw [BitVec.ofInt_natCast, BitVec.toNat_ofNat]; exact Nat.mod_eq_of_lt (by omega)
  show IntKind.u16.wrap ((BitVec.ofInt 16 (a : Int) &&& BitVec.ofInt 16 (b : Int)).toNat : Int) = _
  rw [BitVec.toNat_and, h1, h2, IntKind.wrap_u16]
  omega
/-- The bit k, as a number. -/
theorem u16_bit (b k : Nat) (hb : b < 65536) : bits .and .u16 ((b : Int) / 2 ^ k) 1 = if b.testBit k then 1 else 0 := by
  have h : (b : Int) / 2 ^ k = ((b / 2 ^ k : Nat) : Int) := by simp only [Int.natCast_ediv, Int.natCast_pow]; rfl
  have hd : b / 2 ^ k ≤ b := Nat.div_le_self _ _
  rw [h, show (1 : Int) = ((1 : Nat) : Int) from rfl, u16_and_nat _ 1 (by omega) (by omega), Nat.and_one_is_mod, Nat.testBit_eq_decide_div_mod_eq]
  by_cases h1 : b / 2 ^ k % 2 = 1
  · simp [h1]
  · have h0 : b / 2 ^ k % 2 = 0 := by omega
    simp [h0]
/-- A number under a mask of all bits, or of none. -/
theorem u16_mask (v : Nat) (c : Bool) (hv : v < 65536) : bits .and .u16 (v : Int) (IntKind.u16.wrap (-(if c then 1 else 0))) = ((if c then v else 0 : Nat) : Int) := by
  cases c with
  | true =>
    have : IntKind.u16.wrap (-(if true = true then 1 else 0)) = ((65535 : Nat) : Int) := by rw [IntKind.wrap_u16]; rfl
    rw [this, u16_and_nat _ _ hv (by omega), show (65535 : Nat) = 2 ^ 16 - 1 from rfl, Nat.and_two_pow_sub_one_eq_mod, Nat.mod_eq_of_lt hv]
    rfl
  | false =>
    have : IntKind.u16.wrap (-(if false = true then 1 else 0)) = ((0 : Nat) : Int) := by rw [IntKind.wrap_u16]; rfl
    rw [this, u16_and_nat _ _ hv (by omega), Nat.and_zero]
    rfl
theorem shl16 (a k : Nat) (h : a * 2 ^ k < 65536) : IntKind.u16.wrap ((a : Int) * 2 ^ k) = ((a <<< k : Nat) : Int) := by
  have : (a : Int) * 2 ^ k = ((a * 2 ^ k : Nat) : Int) := by simp only [Int.natCast_mul, Int.natCast_pow]; rfl
  rw [this, IntKind.wrap_u16, Nat.shiftLeft_eq]
  omega
theorem mix_step (P a k b m : Nat) (hP : P < 65536) (ha : a * 2 ^ k < 65536) (hb : b < 65536) :
    bits .xor .u16 (P : Int) (bits .and .u16 (IntKind.u16.wrap ((a : Int) * 2 ^ k)) (IntKind.u16.wrap (-bits .and .u16 ((b : Int) / 2 ^ m) 1))) = ((P ^^^ (if b.testBit m then a <<< k else 0) : Nat) : Int) := by
  have hs : a <<< k < 65536 := by rw [Nat.shiftLeft_eq]; exact ha
  rw [shl16 a k ha, u16_bit b m hb, u16_mask _ _ hs, u16_xor_nat _ _ hP (by split <;> omega)]

set_option maxHeartbeats 1000000 in
set_option maxRecDepth 100000 in
theorem long_any (a b : Nat) (w : World) (ha : a < 256) (hb : b < 256) : Calls Tryd.prog 91 #[.int .u8 a, .int .u8 b] w fun e w' => e = .returned (.int .u16 (Gf.cl a b 8 : Nat)) ∧ Ext w w' := by
  go_enter Tryd.func91, Tryd.ntmps91
  go_wp2
  go_loopw [5, 7] (fun p i W => ∃ k : Nat, k ≤ 8 ∧ i = .int .i64 (k : Int) ∧ p = .int .u16 ((Gf.cl a b k : Nat) : Int) ∧ Ext w W) (fun _ i _ => 8 - (intOf i).toNat)
  case atStart => exact ⟨0, by omega, rfl, rfl, Ext.refl _⟩
  case round =>
    obtain ⟨k, hk, rfl, rfl, hE⟩ := hrel
    by_cases hlt : k < 8
    · have hk' : (k : Int) < 8 := by omega
      have hk0 : (0 : Int) ≤ (k : Int) := by omega
      have hcl := Gf.cl_lt a b ha k
      have hcl' : Gf.cl a b k < 2 ^ 16 := Nat.lt_of_lt_of_le hcl (Nat.pow_le_pow_right (by decide) (by omega))
      have hsh : a * 2 ^ k ≤ 255 * 2 ^ 7 := Nat.mul_le_mul (by omega) (Nat.pow_le_pow_right (by decide) (by omega))
      have HX := hide (mix_step (Gf.cl a b k) a k b k hcl' (by omega) (by omega))
      have HC := hide (show Gf.cl a b (k + 1) = Gf.cl a b k ^^^ (if b.testBit k then a <<< k else 0) from rfl)
      clear hcl hcl' hsh
      generalize Gf.cl a b k = P at *
      go_wp2
      go_quiet (fail)
      go_wp2
      go_roundw
      case rel => exact ⟨k + 1, by omega, by go_num, by rw [HC.out]; exact congrArg _ HX.out, hE.drewN _⟩
      case measure => simp [intOf]; omega
    · obtain rfl : k = 8 := by omega
      go_wp2
      go_ret
      exact ⟨rfl, hE⟩

theorem red1_lt16 {k q : Nat} (hk : k ≤ 7) (hq : q < 65536) : Gf.red1 k q < 65536 := by
  unfold Gf.red1
  split
  · refine Nat.xor_lt_two_pow (n := 16) hq ?_
    rw [Nat.shiftLeft_eq]
    have h2 : 285 * 2 ^ k ≤ 285 * 2 ^ 7 := Nat.mul_le_mul_left _ (Nat.pow_le_pow_right (by decide) hk)
    omega
  · exact hq
theorem red1_eq (k q : Nat) : Gf.red1 k q = q ^^^ (if q.testBit (k + 8) then 285 <<< k else 0) := by
  unfold Gf.red1
  rw [Nat.add_comm]
  split <;> simp

set_option maxHeartbeats 1000000 in
set_option maxRecDepth 100000 in
theorem reduced_any (p : Nat) (w : World) (hp : p < 2 ^ 15) (hr : Gf.red 7 p < 256) : Calls Tryd.prog 90 #[.int .u16 p] w fun e w' => e = .returned (.int .u8 (Gf.red 7 p : Nat)) ∧ Ext w w' := by
  have H0 := hide (show Gf.red 8 p = Gf.red 7 p by rw [Gf.red, Gf.red1, Nat.testBit_lt_two_pow hp]; rfl)
  have HL := hide hr
  clear hr
  generalize Gf.red 7 p = R at *
  go_enter Tryd.func90, Tryd.ntmps90
  go_wp2
  go_loopw [0, 3] (fun q i W => ∃ j x : Nat, j ≤ 8 ∧ i = .int .i64 ((j : Int) - 1) ∧ q = .int .u16 (x : Int) ∧ x < 65536 ∧ Gf.red j x = R ∧ Ext w W) (fun _ i _ => (intOf i + 1).toNat)
  case atStart => exact ⟨8, p, by omega, rfl, rfl, by omega, H0.out, Ext.refl _⟩
  case round =>
    obtain ⟨j, x, hj, rfl, rfl, hx, hred, hE⟩ := hrel
    rcases j with _ | j
    · obtain rfl : x = R := hred
      have hm := HL.out
      clear hx
      go_wp2
      go_ret
      exact ⟨by go_num, hE⟩
    · have hi : ((j + 1 : Nat) : Int) - 1 = (j : Int) := by omega
      rw [hi]
      have hj0 : (0 : Int) ≤ (j : Int) := by omega
      have hsh : 285 * 2 ^ j ≤ 285 * 2 ^ 7 := Nat.mul_le_mul_left _ (Nat.pow_le_pow_right (by decide) (by omega))
      have HR := hide (show Gf.red (j + 1) x = Gf.red j (Gf.red1 j x) from rfl)
      have HX := hide (mix_step x 285 j x (j + 8) hx (by omega) hx)
      have HQ := hide (red1_lt16 (k := j) (by omega) hx)
      have HR1 := hide (red1_eq j x)
      have HRed := hide hred
      clear hred hi
      go_wp2
      go_quiet (fail)
      go_wp2
      go_roundw
      case rel => exact ⟨j, Gf.red1 j x, by omega, rfl, by rw [HR1.out]; exact congrArg _ HX.out, HQ.out, by rw [← HR.out]; exact HRed.out, hE.drewN _⟩
      case measure => simp [intOf]

theorem cl8_lt {a : Nat} (b : Nat) (ha : a < 256) : Gf.cl a b 8 < 2 ^ 15 := by
  rw [Gf.cl]
  refine Nat.xor_lt_two_pow (Gf.cl_lt a b ha 7) ?_
  rw [Nat.shiftLeft_eq]
  split <;> omega

set_option maxHeartbeats 1000000 in
set_option maxRecDepth 100000 in
theorem mul_any (a b : Nat) (w : World) (ha : a < 256) (hb : b < 256) : Calls Tryd.prog 82 #[.int .u8 a, .int .u8 b] w fun e w' => e = .returned (.int .u8 (Gf.mul a b : Nat)) ∧ Ext w w' := by
  have C1 := long_any a b w ha hb
  have C2 := fun W => reduced_any (Gf.cl a b 8) W (cl8_lt b ha) (Gf.mul_lt ha hb)
  have HM := hide (show Gf.mul a b = Gf.red 7 (Gf.cl a b 8) from rfl)
  generalize Gf.cl a b 8 = P at *
  go_enter Tryd.func82, Tryd.ntmps82
  go_wp2_with fail
  refine C1.mono ?_
  rintro e w1 ⟨rfl, hE1⟩
  go_wp2_with fail
  refine (C2 w1).mono ?_
  rintro e w2 ⟨rfl, hE2⟩
  go_wp2
  go_ret
  exact ⟨by rw [HM.out]; rfl, hE1.trans hE2⟩

theorem dbl_all : ∀ a : Fin 256, bits .xor .u16 ((a.val : Int) * 2) (bits .and .u16 285 (IntKind.u16.wrap (-((a.val : Int) * 2 / 256)))) % 256 = ((Gf.mul a.val 2 : Nat) : Int) := by decide +kernel

set_option maxHeartbeats 1000000 in
set_option maxRecDepth 100000 in
theorem doubled_any (a : Nat) (w : World) (ha : a < 256) : Calls Tryd.prog 83 #[.int .u8 a] w fun e w' => e = .returned (.int .u8 (Gf.mul a 2 : Nat)) ∧ Ext w w' := by
  have H := hide (dbl_all ⟨a, ha⟩)
  go_enter Tryd.func83, Tryd.ntmps83
  go_wp2
  go_ret
  exact ⟨congrArg (fun x => Ending.returned (.int .u8 x)) H.out, Ext.refl _⟩
end Go.Proofs.YtkfipfhmbhmamaaDoor

namespace Go.Proofs.YtkfipfhmbhmamaaDoor
open Go.RowKit

namespace Gf
theorem pow_sq {x : Nat} (hx : x < 256) (h : Nat) : pow (mul x x) h = pow x (2 * h) := by
  rw [pow_mul hx, show pow x 2 = mul x x by show mul (mul 1 x) x = _; rw [one_mul hx]]
theorem step_odd {x p m : Nat} (hx : x < 256) (hp : p < 256) (h1 : m % 2 = 1) : mul (mul p x) (pow (mul x x) (m / 2)) = mul p (pow x m) := by
  rw [pow_sq hx, mul_assoc hp hx (pow_lt hx _), show m = 1 + 2 * (m / 2) by omega, pow_add hx, show pow x 1 = x by show mul 1 x = x; rw [one_mul hx]]
  congr 4
  omega
theorem step_even {x p m : Nat} (hx : x < 256) (h1 : m % 2 = 0) : mul p (pow (mul x x) (m / 2)) = mul p (pow x m) := by
  rw [pow_sq hx, show 2 * (m / 2) = m by omega]
end Gf

set_option maxHeartbeats 1000000 in
set_option maxRecDepth 100000 in
theorem pow_any (a n : Nat) (w : World) (ha : a < 256) (hn : n < 18446744073709551616) : Calls Tryd.prog 77 #[.int .u8 a, .int .u64 n] w fun e w' => e = .returned (.int .u8 (Gf.pow a n : Nat)) ∧ Ext w w' := by
  obtain ⟨R, hR⟩ : ∃ R, R = Gf.pow a n := ⟨_, rfl⟩
  have HS := hide (show Gf.mul 1 (Gf.pow a n) = R by rw [hR]; exact Gf.one_mul (Gf.pow_lt ha n))
  rw [← hR]
  clear hR
  go_enter Tryd.func77, Tryd.ntmps77
  go_wp2
  go_loopw [0, 1, 5] (fun x m p W => ∃ y k q : Nat, y < 256 ∧ q < 256 ∧ k < 18446744073709551616 ∧ x = .int .u8 (y : Int) ∧ m = .int .u64 (k : Int) ∧ p = .int .u8 (q : Int) ∧ Gf.mul q (Gf.pow y k) = R ∧ Ext w W) (fun _ m _ _ => (intOf m).toNat)
  case atStart => exact ⟨a, n, 1, ha, by omega, hn, rfl, rfl, rfl, HS.out, Ext.refl _⟩
  case round =>
    obtain ⟨y, k, q, hy, hq, hk, rfl, rfl, rfl, hR, hE⟩ := hrel
    by_cases h0 : k = 0
    · subst h0
      have HR := hide hR
      clear hR
      go_wp2
      go_ret
      exact ⟨congrArg (fun x : Nat => Ending.returned (.int .u8 (x : Int))) ((Gf.mul_one hq).symm.trans HR.out), hE⟩
    · have h0' : 0 < k := by omega
      have HK := hide (show k / 2 < 18446744073709551616 by omega)
      · have C2 := fun W => mul_any y y W hy hy
        have hdiv : ((k : Int) / 2) = ((k / 2 : Nat) : Int) := by omega
        have HY := hide (Gf.mul_lt hy hy)
        have hand := and_one_u64 (k : Int) (by omega) (by omega)
        by_cases h1 : k % 2 = 1
        · have hodd : (bits .and .u64 (k : Int) 1 == 1) = true := by rw [hand]; simp; omega
          have C1 := fun W => mul_any q y W hq hy
          have HP := hide (Gf.mul_lt hq hy)
          have HR := hide ((Gf.step_odd hy hq h1).trans hR)
          clear hR hand
          generalize Gf.mul y y = y2 at *
          generalize Gf.mul q y = qy at *
          have Hd := hide hdiv
          clear h0 h1 hk hdiv
          go_wp2_with fail
          refine (C1 _).mono ?_
          rintro e w1 ⟨rfl, hE1⟩
          go_wp2_with fail
          refine (C2 _).mono ?_
          rintro e w2 ⟨rfl, hE2⟩
          go_wp2
          go_roundw
          case rel => exact ⟨y2, k / 2, qy, HY.out, HP.out, HK.out, rfl, congrArg (Value.int .u64) Hd.out, rfl, HR.out, (hE.trans hE1).trans hE2⟩
          case measure => simp [intOf]; omega
        · have hodd : (bits .and .u64 (k : Int) 1 == 1) = false := by rw [hand]; simp; omega
          have HR := hide ((Gf.step_even (p := q) hy (by omega : k % 2 = 0)).trans hR)
          clear hR hand
          generalize Gf.mul y y = y2 at *
          have Hd := hide hdiv
          clear h0 h1 hk hdiv
          go_wp2_with fail
          refine (C2 _).mono ?_
          rintro e w2 ⟨rfl, hE2⟩
          go_wp2
          go_roundw
          case rel => exact ⟨y2, k / 2, q, HY.out, hq, HK.out, rfl, congrArg (Value.int .u64) Hd.out, rfl, HR.out, hE.trans hE2⟩
          case measure => simp [intOf]; omega

theorem pow_254 {a : Nat} (ha : a < 256) (h : a ≠ 0) : Gf.pow a 254 = Gf.inv a := by
  refine Gf.inv_only ha (Gf.pow_lt ha _) h ?_
  rw [Gf.mul_comm ha (Gf.pow_lt ha _)]
  exact Gf.pow_255 ha h
set_option maxHeartbeats 1000000 in
set_option maxRecDepth 100000 in
theorem inv_any (a : Nat) (w : World) (ha : a < 256) : Calls Tryd.prog 64 #[.int .u8 a] w fun e w' => e = .returned (.tuple #[.int .u8 (((Gf.invR a).1 : Nat) : Int), .int .i64 (Gf.invR a).2]) ∧ Ext w w' := by
  have HR := hide (show Gf.invR a = if a = 0 then (0, 13) else (Gf.inv a, 0) from rfl)
  by_cases h0 : a = 0
  · subst h0
    go_enter Tryd.func64, Tryd.ntmps64
    go_wp2
    go_ret2
    exact ⟨ret_u8err (by rw [HR.out, if_pos trivial]), Ext.refl _⟩
  · have h0' : ((a : Int) == 0) = false := by simp; omega
    have C := fun W => pow_any a 254 W ha (by omega)
    rw [pow_254 ha h0] at C
    have H0 := hide h0
    clear h0
    go_enter Tryd.func64, Tryd.ntmps64
    go_wp2_with fail
    refine (C _).mono ?_
    rintro e w1 ⟨rfl, hE1⟩
    go_wp2
    go_ret2
    exact ⟨ret_u8err (by rw [HR.out, if_neg H0.out]), hE1⟩
end Go.Proofs.YtkfipfhmbhmamaaDoor

namespace Go.Proofs.YtkfipfhmbhmamaaDoor
open Go.RowKit

/-- The first n products of c, then zeros. -/
def Gf.rowP (c n : Nat) : Array Value := ((List.range 256).map fun i => Value.int .u8 (((if i < n then Gf.mul c i else 0) : Nat) : Int)).toArray
theorem Gf.rowP_size (c n : Nat) : (Gf.rowP c n).size = 256 := by simp [Gf.rowP]
theorem Gf.rowP_at (c n : Nat) {i : Nat} (hi : i < 256) : (Gf.rowP c n)[i]? = some (.int .u8 (((if i < n then Gf.mul c i else 0) : Nat) : Int)) := by simp [Gf.rowP, hi]
theorem Gf.rowP_set (c n : Nat) (hn : n < 256) : (Gf.rowP c n).setIfInBounds n (.int .u8 ((Gf.mul c n : Nat) : Int)) = Gf.rowP c (n + 1) := by
  apply Array.ext_getElem?
  intro i
  rcases Nat.lt_or_ge i 256 with hi | hi
  · rw [Gf.rowP_at c (n + 1) hi]
    by_cases h : n = i
    · subst h
      rw [Array.getElem?_setIfInBounds_self_of_lt (by rw [Gf.rowP_size]; exact hn), if_pos (by omega)]
    · rw [Array.getElem?_setIfInBounds_ne h, Gf.rowP_at c n hi]
      by_cases h2 : i < n
      · rw [if_pos h2, if_pos (by omega)]
      · rw [if_neg h2, if_neg (by omega)]
  · rw [Array.getElem?_eq_none (by rw [Array.size_setIfInBounds, Gf.rowP_size]; exact hi), Array.getElem?_eq_none (by rw [Gf.rowP_size]; exact hi)]
theorem Gf.rowP_full (c : Nat) : Gf.rowP c 256 = Gf.rowV c := by
  apply Array.ext_getElem?
  intro i
  rcases Nat.lt_or_ge i 256 with hi | hi
  · rw [Gf.rowP_at c 256 hi, Gf.rowV_at c hi, if_pos hi]
  · rw [Array.getElem?_eq_none (by rw [Gf.rowP_size]; exact hi), Array.getElem?_eq_none (by rw [Gf.rowV_size]; exact hi)]
theorem row_zero' : ∃ Z : Array Value, Z.size = 256 ∧ (∀ W : World, (zeroValue 97).run Tryd.prog W = .ok (.agg Z) W) ∧ ∀ i, i < 256 → Z[i]? = some (.int .u8 0) := by
  refine ⟨Array.replicate 256 (.int .u8 0), by simp, fun W => ?_, fun i hi => by simp [hi]⟩
  have h : (Tryd.prog.info? 97).map (fun i => i.zero) = some (some (.agg (Array.replicate 256 (.int .u8 0)))) := by kernel_rfl
  obtain ⟨i, hi, hz⟩ := Option.map_eq_some_iff.1 h
  simp [zeroValue, typeInfo, hi, hz]
theorem row_start {c : Nat} (hc : c < 256) {Z : Array Value} (hs : Z.size = 256) (hz : ∀ i, i < 256 → Z[i]? = some (.int .u8 0)) : Z.setIfInBounds 1 (.int .u8 (c : Int)) = Gf.rowP c 2 := by
  apply Array.ext_getElem?
  intro i
  rcases Nat.lt_or_ge i 256 with hi | hi
  · rw [Gf.rowP_at c 2 hi]
    by_cases h : 1 = i
    · subst h
      rw [Array.getElem?_setIfInBounds_self_of_lt (by omega), if_pos (by omega), Gf.mul_one hc]
    · rw [Array.getElem?_setIfInBounds_ne h, hz i hi]
      by_cases h0 : i = 0
      · subst h0
        rw [if_pos (by omega), Gf.mul_zero]
        rfl
      · rw [if_neg (by omega)]
        rfl
  · rw [Array.getElem?_eq_none (by rw [Array.size_setIfInBounds, hs]; exact hi), Array.getElem?_eq_none (by rw [Gf.rowP_size]; exact hi)]
theorem rowP_one (c n : Nat) : (Gf.rowP c n).all (·.oneCell') = true := by
  simp [Gf.rowP]
  intros
  rfl
theorem two_all : ∀ k : Fin 128, Gf.mul k.val 2 = 2 * k.val := by decide +kernel
theorem row_even {c k : Nat} (hc : c < 256) (hk : k < 128) : Gf.mul (Gf.mul c k) 2 = Gf.mul c (2 * k) := by
  rw [Gf.mul_assoc hc (by omega) (by omega), two_all ⟨k, hk⟩]
theorem odd_all : ∀ k : Fin 128, (2 * k.val) ^^^ 1 = 2 * k.val + 1 := by decide +kernel
theorem row_odd {c k : Nat} (hc : c < 256) (hk : k < 128) : Gf.mul c (2 * k) ^^^ c = Gf.mul c (2 * k + 1) := by
  rw [← odd_all ⟨k, hk⟩, Gf.mul_xor, Gf.mul_one hc]

set_option maxHeartbeats 1000000 in
set_option maxRecDepth 100000 in
theorem row_any (c : Nat) (w : World) (hc : c < 256) : Calls Tryd.prog 78 #[.int .u8 c] w fun e w' => e = .returned (.agg (Gf.rowV c)) ∧ Ext w w' := by
  obtain ⟨Z, hZ, hzero, hz⟩ := row_zero'
  have HB := hide (row_start hc hZ hz)
  have HF := hide (Gf.rowP_full c)
  have HV1 := hide (Gf.rowV_one c)
  have HV := hide (Gf.rowV_size c)
  have hE0 : Ext w ((w.alloc (.cells Z 97)).alloc (.cells Z 97)) := (extNew w _).alloc _
  have hWr : Whole ((w.alloc (.cells Z 97)).alloc (.cells Z 97)) w.heap.size 97 Z := (Whole.new w _ _).alloc _
  have hWx : Whole ((w.alloc (.cells Z 97)).alloc (.cells Z 97)) (w.heap.size + 1) 97 Z := by
    have := Whole.new (w.alloc (.cells Z 97)) 97 Z
    simpa using this
  have hs : (Gf.rowP c 2).size = Z.size := by rw [Gf.rowP_size, hZ]
  have hinf : (Tryd.prog.info? 97).map (·.size) = some (Gf.rowP c 2).size := by rw [Gf.rowP_size]; exact row_info
  have hone := rowP_one c 2
  have HZ := hide hZ
  have hz2 : ¬ (Z.size < 2) := by omega
  have hHS := hide (show ((w.alloc (.cells Z 97)).alloc (.cells Z 97)).heap.size = w.heap.size + 2 by simp)
  clear hz hZ
  go_enter Tryd.func78, Tryd.ntmps78
  go_wp2_with (refine wpList_storeW rfl 97 (.tmp 3) (.tmp 6) rfl rfl (congrArg Value.agg HB.out) hWx hs hinf hone ?_; intro w1 hW1 hG1 _)
  have hE1 : Ext w w1 := Below.grown hE0 hG1 hE0.le (fun k hk => by cases hk; omega)
  have hWr1 := hWr.grown hG1 (by omega)
  clear hG1 hWr hWx hE0 hs hinf hone hzero hz2 HB
  go_loopw [4] (fun i W => ∃ k : Nat, 1 ≤ k ∧ k ≤ 128 ∧ i = .int .i64 ((2 * k : Nat) : Int) ∧ Whole W (w.heap.size + 1) 97 (Gf.rowP c (2 * k)) ∧ Whole W w.heap.size 97 Z ∧ Ext w W) (fun i _ => 256 - (intOf i).toNat)
  case atStart => exact ⟨1, by omega, by omega, rfl, hW1, hWr1, hE1⟩
  case round =>
    obtain ⟨k, hk1, hk, rfl, hW, hWz, hE⟩ := hrel
    by_cases hlt : k < 128
    · have hlt' : ((2 * k : Nat) : Int) < 256 := by omega
      have hq : ((2 * k : Nat) : Int).tdiv 2 = (k : Int) := by rw [Int.tdiv_eq_ediv_of_nonneg (by omega)]; omega
      have hck := Gf.mul_lt hc (show k < 256 by omega)
      have h2k := Gf.mul_lt hc (show 2 * k < 256 by omega)
      have C := fun W => doubled_any (Gf.mul c k) W hck
      rw [row_even hc hlt] at C
      have d0 := hW.at k (by rw [Gf.rowP_at c _ (show k < 256 by omega), if_pos (by omega)])
      have hxor := u8_xor_nat (Gf.mul c (2 * k)) c h2k hc
      rw [row_odd hc hlt] at hxor
      have S1 := hide (Gf.rowP_set c (2 * k) (by omega))
      have S2 := hide (Gf.rowP_set c (2 * k + 1) (by omega))
      have HS := hide (Gf.rowP_size c (2 * k))
      have SAT := hide (show (Gf.rowP c (2 * k + 1))[2 * k]? = some (.int .u8 ((Gf.mul c (2 * k) : Nat) : Int)) by rw [Gf.rowP_at c _ (show 2 * k < 256 by omega), if_pos (by omega)])
      clear hck h2k
      generalize Gf.mul c k = x at *
      generalize Gf.mul c (2 * k) = y at *
      generalize Gf.mul c (2 * k + 1) = z at *
      go_wp2_with fail
      refine (C _).mono ?_
      rintro e w2 ⟨rfl, hE2⟩
      have hW2 := hW.ext hE2
      have i2 : 2 * k < (Gf.rowP c (2 * k)).size := by rw [HS.out]; omega
      have iz : 2 * k + 1 < (Gf.rowP c (2 * k + 1)).size := by rw [Gf.rowP_size]; omega
      have hb1 : (Tryd.prog.info? 5).map (·.size) = some 1 := by kernel_rfl
      have H2k := hide i2
      have Hz := hide iz
      clear i2 iz d0
      go_wp2_with (first
        | (refine wpList_storeC rfl 5 (.tmp 17) (.tmp 16) rfl _ rfl rfl hW2 H2k.out hb1 rfl rfl S1.out ?_; intro w3 hW3 hG3; have d3 : w3.cell? ⟨w.heap.size + 1, 2 * k, none⟩ = some (.int .u8 (y : Int)) := hW3.at (2 * k) SAT.out)
        | (refine wpList_storeC rfl 5 (.tmp 25) (.tmp 24) rfl _ rfl rfl hW3 Hz.out hb1 rfl rfl S2.out ?_; intro w4 hW4 hG4))
      go_roundw
      case rel =>
        have hF3 : Ext w w3 := Below.grown (hE.trans hE2) hG3 (hE.trans hE2).le (fun k hk => by cases hk; omega)
        have hF4 : Ext w w4 := Below.grown hF3 hG4 hF3.le (fun k hk => by cases hk; omega)
        exact ⟨k + 1, by omega, by omega, congrArg (Value.int .i64) (by omega), hW4, ((hWz.ext hE2).grown hG3 (by omega)).grown hG4 (by omega), hF4⟩
      case measure => simp [intOf]; omega
    · obtain rfl : k = 128 := by omega
      have hWx := hW
      rw [show 2 * 128 = 256 from rfl, HF.out] at hWx
      have hsz := HV.out
      have hinf : (Tryd.prog.info? 97).map (·.size) = some (Gf.rowV c).size := by rw [hsz]; exact row_info
      have hss : (Gf.rowV c).size = Z.size := by rw [hsz, HZ.out]
      have hone := HV1.out
      clear hW hsz
      obtain ⟨V, hV⟩ : ∃ V, V = Gf.rowV c := ⟨_, rfl⟩
      rw [← hV] at hWx hinf hss hone
      have HVV := hide hV
      clear hV
      go_wp2_with (first
        | (refine wpList_load_row rfl 97 (.tmp 3) rfl _ rfl _ _ _ _ hWx Tryd.underlying97 rfl hinf ?_)
        | (refine wpList_storeW rfl 97 (.tmp 2) (.tmp 26) rfl rfl rfl hWz hss hinf hone ?_; intro w5 hW5 hG5 _))
      refine bodyPost_ret (results_cell_row rfl _ _ _ _ _ _ _ rfl hW5 Tryd.underlying97 rfl hinf) rfl ?_
      exact ⟨by rw [HVV.out], Below.grown hE hG5 hE.le (fun k hk => by cases hk; omega)⟩
end Go.Proofs.YtkfipfhmbhmamaaDoor

namespace Go.Proofs.YtkfipfhmbhmamaaDoor
open Go.RowKit

theorem gfZeros (n : Nat) : (madeCells (Value.int .u8 0).cells n).toList = (List.replicate n (0 : UInt8)).map byteV := by
  have : madeCells (Value.int .u8 0).cells n = ((List.replicate n (0 : UInt8)).map byteV).toArray := by
    apply Array.ext
    · simp [size_madeCells]
    · intro i h1 h2
      simp [madeCells, Value.cells, byteV, Nat.mod_one]
  rw [this]
theorem add_step (to b : List UInt8) (c j n : Nat) (h : j < n) : (Gf.addN to c b j ++ List.replicate (n - j) (0 : UInt8)).set j (to.getD j 0 ^^^ UInt8.ofNat (Gf.mul c (b.getD j 0).toNat)) = Gf.addN to c b (j + 1) ++ List.replicate (n - (j + 1)) 0 := by
  rw [Gf.addN, List.set_append, if_neg (by rw [Gf.addN_len]; omega), Gf.addN_len, Nat.sub_self, show n - j = (n - (j + 1)) + 1 by omega, List.replicate_succ, List.set_cons_zero, List.append_assoc]
  rfl

set_option maxHeartbeats 2000000 in
set_option maxRecDepth 100000 in
theorem gfAdd_any (A1 A2 : Option Addr) (c1 c2 c : Nat) (to b : List UInt8) (w : World) (hc : c < 256) (hl : to.length ≤ 1000000)
    (h1 : Bytes w w.heap.size A1 to.length to) (h2 : Bytes w w.heap.size A2 b.length b) : Calls Tryd.prog 87 #[.slice A1 to.length c1, .int .u8 (c : Int), .slice A2 b.length c2] w (MadeR w (Gf.addR to c b)) := by
  have HR := hide (show Gf.addR to c b = if to.length = b.length then (Gf.addN to c b b.length, 0) else ([], 13) from rfl)
  by_cases hne : to.length = b.length
  · have HN := hide (show Gf.addR to c b = (Gf.addN to c b b.length, 0) by rw [HR.out, if_pos hne])
    have hne' : ((to.length : Int) != (b.length : Int)) = false := by simp; omega
    have CR := fun W => row_any c W hc
    have HV := hide (Gf.rowV_size c)
    have HVat := hide (fun i (hi : i < 256) => Gf.rowV_at c hi)
    have hone := Gf.rowV_one c
    have hinf : (Tryd.prog.info? 97).map (·.size) = some (Gf.rowV c).size := by rw [HV.out]; exact row_info
    generalize Gf.rowV c = V at *
    obtain ⟨Z, hZ, hzero, _⟩ := row_zero'
    have hs : V.size = Z.size := by rw [HV.out, hZ]
    obtain ⟨i, hi, hz, hsz, hby⟩ := info_parts byte_info
    have hi4 : to.length ≤ maxLen := by unfold maxLen; omega
    have hi5 : i.bytes * to.length ≤ 281474976710656 := by rw [hby]; omega
    have HQ := hide hne
    clear hne hZ
    go_enter Tryd.func87, Tryd.ntmps87
    go_wp2_with fail
    refine (CR w).mono ?_
    rintro e w1 ⟨rfl, hE1⟩
    have hWz := Whole.new w1 97 Z
    have hE2 : Ext w (w1.alloc (.cells Z 97)) := hE1.alloc _
    go_wp2_with (first
      | (refine wpList_storeW rfl 97 (.tmp 8) (.tmp 17) rfl rfl rfl hWz hs hinf hone ?_; intro w3 hW3 hG3 hS3; clear hS3)
      | (at_make; refine wpList_make_full _ rfl _ _ _ rfl w3.heap.size 5 i _ 1 Tryd.underlying27 hi hz hsz _ _ _ _ to.length rfl rfl rfl rfl hi5 hi4 (Nat.le_refl _) ?_; intro w4 hO4 hG4))
    have hE3 : Ext w w3 := Below.grown hE2 hG3 hE2.le (fun k hk => by cases hk; exact hE1.le)
    have hlt3 := hW3.lt
    have hF4 : Ext w3 w4 := ⟨hG4.os, hG4.tape, hG4.output, hG4.size, fun b hb => hG4.block b hb (by simp)⟩
    have hE4 := hE3.trans hF4
    have hW4 := hW3.ext hF4
    have hO : OwnB w4 w3.heap.size (.slice (some ⟨w3.heap.size, 0, none⟩) to.length to.length) (Gf.addN to c b 0 ++ List.replicate (to.length - 0) 0) := by
      unfold OwnB
      rw [Nat.mul_one, gfZeros] at hO4
      simpa [Gf.addN] using hO4
    clear hO4 hi hz hsz hby hi4 hi5 hG4 hWz hG3 hs hinf hone hzero CR hF4 hW3 hE2
    go_loopw [23] (fun i wr => ∃ j : Nat, j ≤ to.length ∧ i = .int .i64 (j : Int) ∧ OwnB wr w3.heap.size (.slice (some ⟨w3.heap.size, 0, none⟩) to.length to.length) (Gf.addN to c b j ++ List.replicate (to.length - j) 0) ∧ Whole wr w1.heap.size 97 V ∧ Ext w wr) (fun i _ => to.length - (intOf i).toNat)
    case atStart => exact ⟨0, by omega, rfl, hO, hW4, hE4⟩
    case round =>
      obtain ⟨j, hj, rfl, hO2, hW, hE⟩ := hrel
      by_cases hlt : j < to.length
      · have HS := hide (add_step to b c j to.length hlt)
        have hlen : (Gf.addN to c b j ++ List.replicate (to.length - j) (0 : UInt8)).length = to.length := by rw [List.length_append, Gf.addN_len, List.length_replicate]; omega
        rcases h1.2 with h0 | ⟨b1, o1, rfl, hB1, hcell1⟩
        · omega
        rcases h2.2 with h0 | ⟨b2, o2, rfl, hB2, hcell2⟩
        · have := HQ.out; omega
        have k1 := (hE.cell (i := o1 + j) hB1).trans (hcell1 j hlt)
        have k2 := (hE.cell (i := o2 + j) hB2).trans (hcell2 j (by have := HQ.out; omega))
        obtain ⟨hc5, hf5⟩ := hO2.cell (i := j) (by omega)
        clear hcell1 hcell2 h1 h2
        generalize to.getD j 0 = x at *
        generalize b.getD j 0 = y at *
        have hy := UInt8.toNat_lt y
        have k3 := hW.at y.toNat (HVat.out y.toNat hy)
        have hy' : (y.toNat : Int) < 256 := by omega
        have hml := Gf.mul_lt hc hy
        have hxor := u8_xor_byteN x (Gf.mul c y.toNat) hml
        generalize Gf.mul c y.toNat = m at *
        obtain ⟨bt, hbt⟩ : ∃ bt, bt = x ^^^ UInt8.ofNat m := ⟨_, rfl⟩
        rw [← hbt] at hxor HS
        have hO3 := hO2.set j bt
        rw [HS.out] at hO3
        have hE5 : Ext w (wr.setCell ⟨w3.heap.size, j, none⟩ (.int .u8 (bt.toNat : Int))) := hE.setCell hE3.le _
        have hW5 : Whole (wr.setCell ⟨w3.heap.size, j, none⟩ (.int .u8 (bt.toNat : Int))) w1.heap.size 97 V := hW.far (by omega) _ _
        have hj2 : (j : Int) < (b.length : Int) := by have := HQ.out; omega
        clear hbt hO2 hlen hml HVat
        go_wp2
        go_roundw
        case rel => exact ⟨j + 1, by omega, by go_num, hO3, hW5, hE5⟩
        case measure => simp [intOf]; omega
      · obtain rfl : j = to.length := by omega
        rw [Nat.sub_self, List.replicate_zero, List.append_nil] at hO2
        have HO := hide hO2
        clear h1 h2 hO2
        go_wp2
        go_ret2
        exact ⟨_, ret_verr2 (by rw [HN.out]), by rw [HN.out]; have := HO.out.mono hE3.le; rw [HQ.out] at this ⊢; exact this, hE⟩
  · have HN := hide (show Gf.addR to c b = ([], 13) by rw [HR.out, if_neg hne])
    have hne' : ((to.length : Int) != (b.length : Int)) = true := by simp; omega
    clear hne h1 h2
    go_enter Tryd.func87, Tryd.ntmps87
    go_wp2
    go_ret2
    exact ⟨_, ret_verr2 (by rw [HN.out]), by rw [HN.out]; exact OwnB.nil _ _, Ext.refl _⟩
end Go.Proofs.YtkfipfhmbhmamaaDoor

