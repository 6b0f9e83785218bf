/- Contracts of the join of two sums, the program's and the document's. -/
import Derived.Test.YtcoegdkkogoaiaaDoorCrcJoin2
import Derived.Maps.RangeWalk
namespace Go.Proofs.YtcoegdkkogoaiaaDoor
open Go.RowKit

theorem i64_and1 (x : Nat) (h : x < 9223372036854775808) : bits .and .i64 (x : Int) 1 = ((x % 2 : Nat) : Int) := by
  have hx : (BitVec.ofInt 64 (x : Int)).toNat = x := by rw [BitVec.ofInt_natCast, BitVec.toNat_ofNat]; exact Nat.mod_eq_of_lt (by omega)
  have h1 : (BitVec.ofInt 64 (1 : Int)).toNat = 1 := by decide
  show IntKind.i64.wrap ((BitVec.ofInt 64 (x : Int) &&& BitVec.ofInt 64 (1 : Int)).toNat : Int) = _
  rw [BitVec.toNat_and, hx, h1, show (1 : Nat) = 2 ^ 1 - 1 from rfl, Nat.and_two_pow_sub_one_eq_mod, IntKind.wrap_i64]
  omega
theorem Crc.run_mod (a N j : Nat) : Crc.run (8 * (N % 2 ^ (j + 1))) a = if N / 2 ^ j % 2 = 1 then Crc.run (8 * 2 ^ j) (Crc.run (8 * (N % 2 ^ j)) a) else Crc.run (8 * (N % 2 ^ j)) a := by
  have h : N % 2 ^ (j + 1) = N % 2 ^ j + 2 ^ j * (N / 2 ^ j % 2) := by rw [Nat.pow_succ, Nat.mod_mul]
  rw [h]
  split
  · rename_i hb
    rw [hb, Nat.mul_one, Nat.mul_add, Crc.run_add]
  · rename_i hb
    have h0 : N / 2 ^ j % 2 = 0 := by omega
    rw [h0, Nat.mul_zero, Nat.add_zero]

set_option maxHeartbeats 2000000 in
theorem join_any (a b N : Nat) (w : World) (ha : a < 4294967296) (hb : b < 4294967296) (hN : N < 9223372036854775808) (ht : Tab w) (h0 : 0 < w.heap.size) :
    Calls Tryd.prog 20 #[.int .u32 a, .int .u32 b, .int .i64 N] w fun e w' => e = .returned (.int .u32 ((Crc.run (8 * N) a ^^^ b : Nat) : Int)) ∧ Ext w w' := by
  have HB := hide (byteShifter_any w ht h0)
  clear ht
  go_enter Tryd.func20, Tryd.ntmps20
  go_wp2_with fail
  refine HB.out.mono ?_
  rintro e w1 ⟨rfl, hE1⟩
  have hsz : (Crc.row 8).size = 32 := Crc.row_size 8
  have hi1 : (Tryd.prog.info? 45).map (·.size) = some (Crc.row 8).size := by rw [hsz]; exact shifter_info
  have ho1 := Crc.row_one 8
  go_wp2_with (refine wpList_storeW rfl 45 (.tmp 7) (.tmp 10) rfl rfl rfl (Whole.new _ _ _) hsz hi1 ho1 ?_; intro w2 hW2 hG2 hz2)
  simp only [Act.put]
  have hE2 : Ext w w2 := by
    have h1 := hE1.alloc (.cells (Crc.part 0 0) 45)
    exact Below.grown h1 hG2 h1.le (fun k hk => by cases hk; exact hE1.le)
  have hg2 : w.heap.size ≤ w1.heap.size := hE1.le
  clear hG2 hz2 hE1 hsz hi1 ho1
  go_loopw [0, 2, 7] (fun x n p wr => ∃ j g : Nat, n = .int .i64 ((N / 2 ^ j : Nat) : Int) ∧ x = .int .u32 ((Crc.run (8 * (N % 2 ^ j)) a : Nat) : Int) ∧ p = .pointer (some ⟨g, 0, none⟩) ∧ w.heap.size ≤ g ∧ Whole wr g 45 (Crc.row (8 * 2 ^ j)) ∧ Ext w wr) (fun _ n _ _ => (intOf n).toNat)
  case atStart => exact ⟨0, w1.heap.size, by simp, by rw [Nat.pow_zero, Nat.mod_one]; rfl, rfl, hg2, hW2, hE2⟩
  case round =>
    obtain ⟨j, g, rfl, rfl, rfl, hg, hW, hE⟩ := hrel
    have hq : N / 2 ^ j ≤ N := Nat.div_le_self _ _
    by_cases hz : N / 2 ^ j = 0
    · have hm : N % 2 ^ j = N := Nat.mod_eq_of_lt (by rcases Nat.div_eq_zero_iff.1 hz with h | h; (exact absurd h (Nat.ne_of_gt (Nat.two_pow_pos j))); exact h)
      rw [hm, hz]
      have hr : Crc.run (8 * N) a < 4294967296 := Crc.run_lt32 _ ha
      have hx := u32_xor_nat _ b hr hb
      clear hm hz hq
      generalize hR : Crc.run (8 * N) a = r at *
      have HR := hide hR
      clear hR
      go_wp2
      go_ret
      exact ⟨ret_u32 (by rw [HR.out]), hE⟩
    · have HQ := hide (show N / 2 ^ (j + 1) = N / 2 ^ j / 2 by rw [Nat.pow_succ, Nat.div_div_eq_div_mul])
      have HM := hide (Crc.run_mod a N j)
      have HP := hide (show 8 * 2 ^ j + 8 * 2 ^ j = 8 * 2 ^ (j + 1) by rw [Nat.pow_succ]; omega)
      have hxl : Crc.run (8 * (N % 2 ^ j)) a < 4294967296 := Crc.run_lt32 _ ha
      have hi1 : (Tryd.prog.info? 45).map (·.size) = some (Crc.row (8 * 2 ^ j)).size := by rw [Crc.row_size]; exact shifter_info
      have hs1 : (Crc.row (8 * 2 ^ j + 8 * 2 ^ j)).size = (Crc.row (8 * 2 ^ j)).size := by rw [Crc.row_size, Crc.row_size]
      have hs2 : (Crc.row (8 * 2 ^ j + 8 * 2 ^ j)).size = 32 := by rw [Crc.row_size]
      have hi2 : (Tryd.prog.info? 45).map (·.size) = some (Crc.row (8 * 2 ^ j + 8 * 2 ^ j)).size := by rw [Crc.row_size]; exact shifter_info
      have ho2 := Crc.row_one (8 * 2 ^ j + 8 * 2 ^ j)
      have HS := hide (fun X (hX : X < 4294967296) W => shiftBy_any (8 * 2 ^ j) X W hX)
      have HDb := hide (doubled_any (8 * 2 ^ j))
      generalize Crc.run (8 * (N % 2 ^ j)) a = x at *
      generalize N / 2 ^ j = q at *
      have hand := i64_and1 q (by omega)
      have hq0 : 0 < q := by omega
      have HSx := hide (HS.out x hxl)
      generalize Crc.row (8 * 2 ^ j) = R at *
      generalize hR2 : Crc.row (8 * 2 ^ j + 8 * 2 ^ j) = R2 at *
      have HR2 := hide hR2
      clear hz hq hxl hR2
      by_cases hbit : q % 2 = 1
      · have hb1 : (((q % 2 : Nat) : Int) == 1) = true := by simp; omega
        rw [hbit] at hb1 hand
        rw [if_pos hbit] at HM
        clear hbit
        go_wp2_with (first
          | (refine wpList_load_row (o := ⟨some 18, _, _, _, _, _⟩) rfl 45 (.tmp 7) rfl _ rfl _ _ _ _ hW Tryd.underlying45 rfl hi1 ?_)
          | (go_at_call 28; refine (HSx.out _).mono ?_; rintro e w4 ⟨rfl, hX4⟩; have hW4 := hW.ext hX4)
          | (refine wpList_load_row (o := ⟨some 21, _, _, _, _, _⟩) rfl 45 (.tmp 7) rfl _ rfl _ _ _ _ hW4 Tryd.underlying45 rfl hi1 ?_)
          | (go_at_call 29; refine (HDb.out _).mono ?_; rintro e w5 ⟨rfl, hX5⟩; have hW5 := hW4.ext hX5)
          | (refine wpList_storeW rfl 45 (.tmp 7) (.tmp 22) rfl rfl rfl hW5 hs1 hi2 ho2 ?_; intro w6 hW6 hG6 hz6; clear hz6)
          | (refine wpList_load_row (o := ⟨some 23, _, _, _, _, _⟩) rfl 45 (.tmp 7) rfl _ rfl _ _ _ _ hW6 Tryd.underlying45 rfl hi2 ?_)
          | (refine wpList_storeW rfl 45 (.tmp 7) (.tmp 23) rfl rfl rfl (Whole.new _ _ _) hs2 hi2 ho2 ?_; intro w7 hW7 hG7 hz7; clear hz7))
        have hE6 : Ext w w6 := Below.grown (hE.trans (hX4.trans hX5)) hG6 (hE.trans (hX4.trans hX5)).le (fun k hk => by cases hk; exact hg)
        have hE7 : Ext w w7 := hE6.storeNew hG7
        go_wp2
        go_roundw
        case rel => exact ⟨j + 1, _, by rw [HQ.out]; go_num, by rw [HM.out], rfl, hE6.le, by rw [← HP.out, HR2.out]; exact hW7, hE7⟩
        case measure => simp [intOf]; omega
      · have hb1 : (((q % 2 : Nat) : Int) == 1) = false := by simp; omega
        have hq2 : q % 2 = 0 := by omega
        rw [hq2] at hb1 hand
        rw [if_neg hbit] at HM
        clear hbit hq2
        go_wp2_with (first
          | (refine wpList_load_row (o := ⟨some 21, _, _, _, _, _⟩) rfl 45 (.tmp 7) rfl _ rfl _ _ _ _ hW Tryd.underlying45 rfl hi1 ?_)
          | (go_at_call 29; refine (HDb.out _).mono ?_; rintro e w5 ⟨rfl, hX5⟩; have hW5 := hW.ext hX5)
          | (refine wpList_storeW rfl 45 (.tmp 7) (.tmp 22) rfl rfl rfl hW5 hs1 hi2 ho2 ?_; intro w6 hW6 hG6 hz6; clear hz6)
          | (refine wpList_load_row (o := ⟨some 23, _, _, _, _, _⟩) rfl 45 (.tmp 7) rfl _ rfl _ _ _ _ hW6 Tryd.underlying45 rfl hi2 ?_)
          | (refine wpList_storeW rfl 45 (.tmp 7) (.tmp 23) rfl rfl rfl (Whole.new _ _ _) hs2 hi2 ho2 ?_; intro w7 hW7 hG7 hz7; clear hz7))
        have hE6 : Ext w w6 := Below.grown (hE.trans hX5) hG6 (hE.trans hX5).le (fun k hk => by cases hk; exact hg)
        have hE7 : Ext w w7 := hE6.storeNew hG7
        go_wp2
        go_roundw
        case rel => exact ⟨j + 1, _, by rw [HQ.out]; go_num, by rw [HM.out], rfl, hE6.le, by rw [← HP.out, HR2.out]; exact hW7, hE7⟩
        case measure => simp [intOf]; omega
end Go.Proofs.YtcoegdkkogoaiaaDoor
