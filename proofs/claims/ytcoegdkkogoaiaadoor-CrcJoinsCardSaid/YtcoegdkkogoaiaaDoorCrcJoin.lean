/- Contracts of the join of two sums: rows of 32 numbers as shifters. -/
import Derived.Test.YtcoegdkkogoaiaaDoorCrcBit
import Derived.Test.YtcoegdkkogoaiaaDoorWhole
namespace Go.Proofs.YtcoegdkkogoaiaaDoor
open Go.RowKit

/-- The shifter of n shifts: what they make of each bit alone. -/
def Crc.row (n : Nat) : Array Value := ((List.range 32).map fun i => Value.int .u32 ((Crc.run n (2 ^ i) : Nat) : Int)).toArray
theorem Crc.row_size (n : Nat) : (Crc.row n).size = 32 := by simp [Crc.row]
theorem Crc.row_get (n i : Nat) (h : i < 32) : (Crc.row n)[i]? = some (.int .u32 ((Crc.run n (2 ^ i) : Nat) : Int)) := by simp [Crc.row, h]
theorem Crc.run_bit (n x k : Nat) : Crc.run n (x % 2 ^ (k + 1)) = if x / 2 ^ k % 2 = 1 then Crc.run n (x % 2 ^ k) ^^^ Crc.run n (2 ^ k) else Crc.run n (x % 2 ^ k) := by
  rw [Crc.mod_succ, Crc.run_xor]
  split
  · rfl
  · rw [Crc.run_zero]; simp

theorem Crc.and1 (x : Nat) (h : x < 4294967296) : bits .and .u32 (x : Int) 1 = ((x % 2 : Nat) : Int) := by
  rw [show (1 : Int) = ((1 : Nat) : Int) from rfl, u32_and_nat x 1 h (by omega), show 1 = 2 ^ 1 - 1 from rfl, Nat.and_two_pow_sub_one_eq_mod]

set_option maxHeartbeats 1000000 in
theorem shiftBy_any (n X : Nat) (w : World) (hX : X < 4294967296) :
    Calls Tryd.prog 28 #[.agg (Crc.row n), .int .u32 X] w fun e w' => e = .returned (.int .u32 (Crc.run n X : Nat)) ∧ Ext w w' := by
  have hE := extNew w (.cells (Crc.row n) 45)
  have HR := hide (fun k (hk : k < 32) => Crc.row_get n k hk)
  generalize hrow : Crc.row n = R at *
  go_enter Tryd.func28, Tryd.ntmps28
  go_wp2
  go_loop [1, 5, 6] (fun x o i => ∃ k : Nat, k ≤ 32 ∧ i = .int .i64 k ∧ x = .int .u32 ((X / 2 ^ k : Nat) : Int) ∧ o = .int .u32 ((Crc.run n (X % 2 ^ k) : Nat) : Int)) (fun _ _ i => 32 - (intOf i).toNat)
  case atStart => exact ⟨0, by omega, rfl, by simp, by rw [Nat.pow_zero, Nat.mod_one, Crc.run_zero]; rfl⟩
  case round =>
    obtain ⟨k, hk, rfl, rfl, rfl⟩ := hrel
    by_cases hq : X / 2 ^ k = 0
    · have hm : X % 2 ^ k = X := Nat.mod_eq_of_lt (by rcases Nat.div_eq_zero_iff.1 hq with h | h; (exact absurd h (Nat.ne_of_gt (Nat.two_pow_pos k))); exact h)
      rw [hm, hq]
      clear hm hq
      go_wp2
      go_ret
      exact ⟨rfl, hE⟩
    · have hk32 : k < 32 := by
        rcases Nat.lt_or_ge k 32 with h | h
        · exact h
        · obtain rfl : k = 32 := by omega
          exact absurd (Nat.div_eq_zero_iff.2 (Or.inr (by omega : X < 2 ^ 32))) hq
      have hcell := HR.out k hk32
      have hql : X / 2 ^ k ≤ X := Nat.div_le_self _ _
      have HQ := hide (show X / 2 ^ (k + 1) = X / 2 ^ k / 2 by rw [Nat.pow_succ, Nat.div_div_eq_div_mul])
      have HB := hide (Crc.run_bit n X k)
      have hr1 : Crc.run n (X % 2 ^ k) < 4294967296 := Crc.run_lt32 n (Nat.lt_of_le_of_lt (Nat.mod_le _ _) hX)
      have hr2 : Crc.run n (2 ^ k) < 4294967296 := Crc.run_lt32 n (Nat.pow_lt_pow_right (by omega) hk32)
      generalize X / 2 ^ k = q at *
      generalize Crc.run n (X % 2 ^ k) = a at *
      generalize Crc.run n (2 ^ k) = b at *
      have ha := Crc.and1 q (by omega)
      have hx := u32_xor_nat a b hr1 hr2
      have hq0 : ((q : Int) != 0) = true := by simpa using hq
      clear hq
      by_cases hbit : q % 2 = 1
      · have hb1 : (((q % 2 : Nat) : Int) == 1) = true := by simp; omega
        rw [hbit] at hb1 ha
        rw [if_pos hbit] at HB
        clear hbit
        go_wp2
        go_round
        case rel => exact ⟨k + 1, by omega, by go_num, by rw [HQ.out]; go_num, by rw [HB.out]⟩
        case measure => simp [intOf]; omega
      · have hb1 : (((q % 2 : Nat) : Int) == 1) = false := by simp; omega
        have hq2 : q % 2 = 0 := by omega
        rw [hq2] at hb1 ha
        rw [if_neg hbit] at HB
        clear hbit hq2
        go_wp2
        go_round
        case rel => exact ⟨k + 1, by omega, by go_num, by rw [HQ.out]; go_num, by rw [HB.out]⟩
        case measure => simp [intOf]; omega
end Go.Proofs.YtcoegdkkogoaiaaDoor
