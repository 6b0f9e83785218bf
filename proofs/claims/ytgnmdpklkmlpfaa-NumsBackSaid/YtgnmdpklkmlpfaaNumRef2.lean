/- Contracts of the document's numbers: Fixed, scan, Text. -/
import Derived.Test.YtgnmdpklkmlpfaaNumRef
import Derived.Lib.AppendStr
namespace Go.Proofs.Ytgnmdpklkmlpfaa
open Go.RowKit

namespace Num
def fixErr (x : Nat) (n : Int) : Int := if 1 ≤ n ∧ n ≤ 8 ∧ x < 256 ^ n.toNat then 0 else 13
def fixBytes (x : Nat) (n : Int) : List UInt8 := if 1 ≤ n ∧ n ≤ 8 ∧ x < 256 ^ n.toNat then fix n.toNat x else []
end Num
theorem ret_verr' {v : Value} {a b : Int} (h : a = b) : Ending.returned (.tuple #[v, .int .i64 a]) = .returned (.tuple #[v, .int .i64 b]) := by rw [h]
/-- Behind a call that makes bytes and tells an error. -/
def MadeE (w : World) (l : List UInt8) (err : Int) (e : Ending) (w' : World) : Prop := ∃ v, e = .returned (.tuple #[v, .int .i64 err]) ∧ OwnB w' w.heap.size v l ∧ Ext w w'

set_option maxHeartbeats 1000000 in
set_option maxRecDepth 100000 in
theorem refFixed_any (x : Nat) (n : Int) (w : World) (hx : x < 18446744073709551616) : Calls Try.prog 12 #[.int .u64 x, .int .i64 n] w (MadeE w (Num.fixBytes x n) (Num.fixErr x n)) := by
  by_cases hr : 1 ≤ n ∧ n ≤ 8
  · obtain ⟨h1, h8⟩ := hr
    obtain ⟨k, rfl⟩ := Int.eq_ofNat_of_zero_le (show 0 ≤ n by omega)
    go_enter Try.func12, Try.ntmps12
    go_wp2
    go_loopw [0, 6, 7] (fun y v i wr => ∃ j : Nat, j ≤ k ∧ i = .int .i64 (j : Int) ∧ y = .int .u64 ((x / 256 ^ j : Nat) : Int) ∧ OwnB wr w.heap.size v (Num.fix j x) ∧ Ext w wr) (fun _ _ i _ => k - (intOf i).toNat)
    case atStart => exact ⟨0, by omega, rfl, by simp, OwnB.nil _ _, Ext.refl _⟩
    case round =>
      obtain ⟨j, hj, rfl, rfl, hO, hE⟩ := hrel
      have hy : x / 256 ^ j ≤ 18446744073709551615 := Nat.le_trans (Nat.div_le_self _ _) (by omega)
      by_cases hlt : j < k
      · have HS := hide (Num.fix_snoc j x)
        have HD := hide (show ((x / 256 ^ j : Nat) : Int) / 256 = ((x / 256 ^ (j + 1) : Nat) : Int) by rw [Nat.pow_succ, ← Nat.div_div_eq_div_mul]; omega)
        have hlen := Num.fix_len j x
        have hfit : (Num.fix j x).length + 1 ≤ 140737488355328 := by omega
        generalize Num.fix j x = Fx at *
        generalize x / 256 ^ j = y at *
        obtain ⟨bt, hbt⟩ : ∃ bt : UInt8, bt = UInt8.ofNat (y % 256) := ⟨_, rfl⟩
        have hbn : bt.toNat = y % 256 := by rw [hbt]; exact Num.ofNat_low _ (by omega)
        rw [← hbt] at HS
        have hbyte : ((y : Int) % 256) = (bt.toNat : Int) := by omega
        have hbl := bt.toNat_lt
        have hb1 := bytesNew wr [bt] #[.int .u8 (bt.toNat : Int)] 5 (0, 0) rfl 1 rfl
        have hO1 := hO.ext (extNew wr (.cells #[.int .u8 (bt.toNat : Int)] 5))
        have hE1 := hE.trans (extNew wr (.cells #[.int .u8 (bt.toNat : Int)] 5))
        have hB1 := hE1.le
        clear hlen hbt hbn
        go_wp2_with (at_builtin; refine wpList_appAt rfl (.tmp 19) (.tmp 23) rfl rfl hO1 rfl hb1 hfit hB1 ?_; intro v2 w2 hO2 hG2 hN2)
        go_roundw
        case rel => exact ⟨j + 1, by omega, by go_num, by rw [← HD.out], by rw [HS.out]; exact hO2, hO1.below hE1 hG2 hB1⟩
        case measure => simp [intOf]; omega
      · obtain rfl : j = k := by omega
        have hpow : 0 < 256 ^ j := Nat.pow_pos (by decide)
        by_cases hz : x / 256 ^ j = 0
        · have hxl : x < 256 ^ j := by
            rcases Nat.div_eq_zero_iff.1 hz with h | h
            · omega
            · exact h
          have HB := hide (show Num.fixErr x (j : Int) = 0 ∧ Num.fixBytes x (j : Int) = Num.fix j x by unfold Num.fixErr Num.fixBytes; rw [if_pos ⟨h1, h8, by simpa using hxl⟩, if_pos ⟨h1, h8, by simpa using hxl⟩]; simp)
          have hz' : (((x / 256 ^ j : Nat) : Int) != 0) = false := by rw [hz]; rfl
          clear hz hxl hpow
          generalize x / 256 ^ j = y at *
          go_wp2
          go_ret2
          exact ⟨_, ret_verr' HB.out.1.symm, by rw [HB.out.2]; exact hO, hE⟩
        · have hxl : ¬ x < 256 ^ j := fun h => hz (Nat.div_eq_of_lt h)
          have HB := hide (show Num.fixErr x (j : Int) = 13 ∧ Num.fixBytes x (j : Int) = [] by unfold Num.fixErr Num.fixBytes; rw [if_neg (fun h => hxl (by simpa using h.2.2)), if_neg (fun h => hxl (by simpa using h.2.2))]; simp)
          have hz' : (((x / 256 ^ j : Nat) : Int) != 0) = true := by simpa using fun h => hz (by exact_mod_cast h)
          clear hz hxl hpow
          generalize x / 256 ^ j = y at *
          go_wp2
          go_ret2
          exact ⟨_, ret_verr' HB.out.1.symm, by rw [HB.out.2]; exact OwnB.nil _ _, hE⟩
  · have HB := hide (show Num.fixErr x n = 13 ∧ Num.fixBytes x n = [] by unfold Num.fixErr Num.fixBytes; rw [if_neg (fun h => hr ⟨h.1, h.2.1⟩), if_neg (fun h => hr ⟨h.1, h.2.1⟩)]; simp)
    by_cases h1 : n < 1
    · clear hr
      go_enter Try.func12, Try.ntmps12
      go_wp2
      go_ret2
      exact ⟨_, ret_verr' HB.out.1.symm, by rw [HB.out.2]; exact OwnB.nil _ _, Ext.refl _⟩
    · have h8 : 8 < n := by omega
      clear hr
      go_enter Try.func12, Try.ntmps12
      go_wp2
      go_ret2
      exact ⟨_, ret_verr' HB.out.1.symm, by rw [HB.out.2]; exact OwnB.nil _ _, Ext.refl _⟩
end Go.Proofs.Ytgnmdpklkmlpfaa
