/- Contracts of the program's field: Pow, Inv, Div, Log. -/
import Derived.Test.YtpgdmdcooddgdaaGfCalc
import Derived.WalkSmall
namespace Go.Proofs.Ytpgdmdcooddgdaa
open Go.RowKit

namespace Gf
theorem pow_sq {x : Nat} (hx : x < 256) (h : Nat) : pow (mul x x) h = pow x (2 * h) := by
  rw [pow_mul hx, show pow x 2 = mul x x by show mul (mul 1 x) x = _; rw [one_mul hx]]
theorem step_odd {x p m : Nat} (hx : x < 256) (hp : p < 256) (h1 : m % 2 = 1) : mul (mul p x) (pow (mul x x) (m / 2)) = mul p (pow x m) := by
  rw [pow_sq hx, mul_assoc hp hx (pow_lt hx _), show m = 1 + 2 * (m / 2) by omega, pow_add hx, show pow x 1 = x by show mul 1 x = x; rw [one_mul hx]]
  congr 4
  omega
theorem step_even {x p m : Nat} (hx : x < 256) (h1 : m % 2 = 0) : mul p (pow (mul x x) (m / 2)) = mul p (pow x m) := by
  rw [pow_sq hx, show 2 * (m / 2) = m by omega]
end Gf

set_option maxHeartbeats 1000000 in
set_option maxRecDepth 100000 in
theorem pow_any (a n : Nat) (w : World) (ha : a < 256) (hn : n < 18446744073709551616) : Calls Try.prog 46 #[.int .u8 a, .int .u64 n] w fun e w' => e = .returned (.int .u8 (Gf.pow a n : Nat)) ∧ Ext w w' := by
  obtain ⟨R, hR⟩ : ∃ R, R = Gf.pow a n := ⟨_, rfl⟩
  have HS := hide (show Gf.mul 1 (Gf.pow a n) = R by rw [hR]; exact Gf.one_mul (Gf.pow_lt ha n))
  rw [← hR]
  clear hR
  go_enter Try.func46, Try.ntmps46
  go_wp2
  go_loopw [0, 1, 5] (fun x m p W => ∃ y k q : Nat, y < 256 ∧ q < 256 ∧ k < 18446744073709551616 ∧ x = .int .u8 (y : Int) ∧ m = .int .u64 (k : Int) ∧ p = .int .u8 (q : Int) ∧ Gf.mul q (Gf.pow y k) = R ∧ Ext w W) (fun _ m _ _ => (intOf m).toNat)
  case atStart => exact ⟨a, n, 1, ha, by omega, hn, rfl, rfl, rfl, HS.out, Ext.refl _⟩
  case round =>
    obtain ⟨y, k, q, hy, hq, hk, rfl, rfl, rfl, hR, hE⟩ := hrel
    by_cases h0 : k = 0
    · subst h0
      have HR := hide hR
      clear hR
      go_wp2
      go_ret
      exact ⟨congrArg (fun x : Nat => Ending.returned (.int .u8 (x : Int))) ((Gf.mul_one hq).symm.trans HR.out), hE⟩
    · have h0' : 0 < k := by omega
      have HK := hide (show k / 2 < 18446744073709551616 by omega)
      · have C2 := fun W => mul_any y y W hy hy
        have hdiv : ((k : Int) / 2) = ((k / 2 : Nat) : Int) := by omega
        have HY := hide (Gf.mul_lt hy hy)
        have hand := and_one_u64 (k : Int) (by omega) (by omega)
        by_cases h1 : k % 2 = 1
        · have hodd : (bits .and .u64 (k : Int) 1 == 1) = true := by rw [hand]; simp; omega
          have C1 := fun W => mul_any q y W hq hy
          have HP := hide (Gf.mul_lt hq hy)
          have HR := hide ((Gf.step_odd hy hq h1).trans hR)
          clear hR hand
          generalize Gf.mul y y = y2 at *
          generalize Gf.mul q y = qy at *
          have Hd := hide hdiv
          clear h0 h1 hk hdiv
          go_wp2_with fail
          refine (C1 _).mono ?_
          rintro e w1 ⟨rfl, hE1⟩
          go_wp2_with fail
          refine (C2 _).mono ?_
          rintro e w2 ⟨rfl, hE2⟩
          go_wp2
          go_roundw
          case rel => exact ⟨y2, k / 2, qy, HY.out, HP.out, HK.out, rfl, congrArg (Value.int .u64) Hd.out, rfl, HR.out, (hE.trans hE1).trans hE2⟩
          case measure => simp [intOf]; omega
        · have hodd : (bits .and .u64 (k : Int) 1 == 1) = false := by rw [hand]; simp; omega
          have HR := hide ((Gf.step_even (p := q) hy (by omega : k % 2 = 0)).trans hR)
          clear hR hand
          generalize Gf.mul y y = y2 at *
          have Hd := hide hdiv
          clear h0 h1 hk hdiv
          go_wp2_with fail
          refine (C2 _).mono ?_
          rintro e w2 ⟨rfl, hE2⟩
          go_wp2
          go_roundw
          case rel => exact ⟨y2, k / 2, q, HY.out, hq, HK.out, rfl, congrArg (Value.int .u64) Hd.out, rfl, HR.out, hE.trans hE2⟩
          case measure => simp [intOf]; omega

theorem pow_254 {a : Nat} (ha : a < 256) (h : a ≠ 0) : Gf.pow a 254 = Gf.inv a := by
  refine Gf.inv_only ha (Gf.pow_lt ha _) h ?_
  rw [Gf.mul_comm ha (Gf.pow_lt ha _)]
  exact Gf.pow_255 ha h
set_option maxHeartbeats 1000000 in
set_option maxRecDepth 100000 in
theorem inv_any (a : Nat) (w : World) (ha : a < 256) : Calls Try.prog 36 #[.int .u8 a] w fun e w' => e = .returned (.tuple #[.int .u8 (((Gf.invR a).1 : Nat) : Int), .int .i64 (Gf.invR a).2]) ∧ Ext w w' := by
  have HR := hide (show Gf.invR a = if a = 0 then (0, 13) else (Gf.inv a, 0) from rfl)
  by_cases h0 : a = 0
  · subst h0
    go_enter Try.func36, Try.ntmps36
    go_wp2
    go_ret2
    exact ⟨ret_u8err (by rw [HR.out, if_pos trivial]), Ext.refl _⟩
  · have h0' : ((a : Int) == 0) = false := by simp; omega
    have C := fun W => pow_any a 254 W ha (by omega)
    rw [pow_254 ha h0] at C
    have H0 := hide h0
    clear h0
    go_enter Try.func36, Try.ntmps36
    go_wp2_with fail
    refine (C _).mono ?_
    rintro e w1 ⟨rfl, hE1⟩
    go_wp2
    go_ret2
    exact ⟨ret_u8err (by rw [HR.out, if_neg H0.out]), hE1⟩
end Go.Proofs.Ytpgdmdcooddgdaa
