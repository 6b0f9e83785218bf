/- Contracts of the document's numbers: Num, Fixed, Zig, Zag, scan. -/
import Derived.Test.YtgnmdpklkmlpfaaNumMath
import Derived.Test.YtgnmdpklkmlpfaaMod
namespace Go.Proofs.Ytgnmdpklkmlpfaa
open Go.RowKit

/-- A byte that a number becomes. -/
theorem byte_of {z : Int} {y : Nat} (h : z = (y : Int)) (hy : y < 256) : z = ((UInt8.ofNat y).toNat : Int) := by rw [h, Num.ofNat_low y hy]

set_option maxHeartbeats 1000000 in
set_option maxRecDepth 100000 in
theorem refNum_any (x : Nat) (w : World) (hx : x < 18446744073709551616) : Calls Try.prog 15 #[.int .u64 x] w (MadeB w (Num.enc x)) := by
  go_enter Try.func15, Try.ntmps15
  go_wp2
  go_loopw [0, 3] (fun y v wr => ∃ (k z : Nat) (pre : List UInt8), y = .int .u64 (z : Int) ∧ z < 18446744073709551616 ∧ z < 128 ^ (10 - k) ∧ k ≤ 9 ∧ pre.length = k ∧ pre ++ Num.encF (10 - k) z = Num.enc x ∧ OwnB wr w.heap.size v pre ∧ Ext w wr) (fun y _ _ => (intOf y).toNat)
  case atStart => exact ⟨0, x, [], rfl, hx, Nat.lt_of_lt_of_le hx (by decide), by omega, rfl, rfl, OwnB.nil _ _, Ext.refl _⟩
  case round =>
    obtain ⟨k, z, pre, rfl, hz, hzk, hk, hlen, henc, hO, hE⟩ := hrel
    obtain ⟨f, hf⟩ : ∃ f, 10 - k = f + 1 := ⟨9 - k, by omega⟩
    rw [hf] at henc hzk
    have hfit : pre.length + 1 ≤ 140737488355328 := by omega
    by_cases hs : z < 128
    · rw [Num.encF_small hs] at henc
      have HE := hide henc
      have hbyte : ((z : Int) % 256) = ((UInt8.ofNat z).toNat : Int) := byte_of (by omega) (by omega)
      obtain ⟨bt, rfl⟩ : ∃ bt : UInt8, z = bt.toNat := ⟨UInt8.ofNat z, by rw [Num.ofNat_low z (by omega)]⟩
      rw [UInt8.ofNat_toNat] at HE
      have hb1 := bytesNew wr [bt] #[.int .u8 (bt.toNat : Int)] 5 (0, 0) rfl 1 rfl
      have hO1 := hO.ext (extNew wr (.cells #[.int .u8 (bt.toNat : Int)] 5))
      have hE1 := hE.trans (extNew wr (.cells #[.int .u8 (bt.toNat : Int)] 5))
      have hB1 := hE1.le
      clear henc hlen hbyte hf
      go_wp2_with (at_builtin; refine wpList_appAt rfl (.tmp 15) (.tmp 18) rfl rfl hO1 rfl hb1 hfit hB1 ?_; intro v2 w2 hO2 hG2 hN2)
      go_ret
      exact ⟨v2, rfl, by rw [← HE.out]; exact hO2, hO1.below hE1 hG2 hB1⟩
    · rw [Num.encF_big hs] at henc
      have HE := hide henc
      have hk9 : k ≤ 8 := by
        rcases Nat.lt_or_ge k 9 with h | h
        · omega
        · obtain rfl : k = 9 := by omega
          obtain rfl : f = 0 := by omega
          simp at hzk
          omega
      have HF := hide (show 10 - (k + 1) = f by omega)
      have HZ := hide (show z / 128 < 128 ^ f by rw [Nat.pow_succ] at hzk; exact Nat.div_lt_of_lt_mul (by rw [Nat.mul_comm]; exact hzk))
      obtain ⟨bt, hbt⟩ : ∃ bt : UInt8, bt = UInt8.ofNat (128 + z % 128) := ⟨_, rfl⟩
      have hbn : bt.toNat = 128 + z % 128 := by rw [hbt]; exact Num.ofNat_low _ (by omega)
      rw [← hbt] at HE
      have hbyte : (128 + (z : Int) % 128) = (bt.toNat : Int) := by omega
      have hbl := bt.toNat_lt
      have hb1 := bytesNew wr [bt] #[.int .u8 (bt.toNat : Int)] 5 (0, 0) rfl 1 rfl
      have hO1 := hO.ext (extNew wr (.cells #[.int .u8 (bt.toNat : Int)] 5))
      have hE1 := hE.trans (extNew wr (.cells #[.int .u8 (bt.toNat : Int)] 5))
      have hB1 := hE1.le
      have HLen := hide hlen
      clear henc hlen hf hbt hbn hzk
      go_wp2_with (at_builtin; refine wpList_appAt rfl (.tmp 6) (.tmp 11) rfl rfl hO1 rfl hb1 hfit hB1 ?_; intro v2 w2 hO2 hG2 hN2)
      go_roundw
      case rel =>
        refine ⟨k + 1, z / 128, pre ++ [bt], ?_, by omega, by rw [HF.out]; exact HZ.out, by omega, by simp [HLen.out], by rw [HF.out, List.append_assoc]; exact HE.out, hO2, hO1.below hE1 hG2 hB1⟩
        rw [show ((z : Int) / 128) = ((z / 128 : Nat) : Int) by omega]
      case measure => simp [intOf]; omega

theorem ret_u64 {a b : Int} (h : a = b) : Ending.returned (.int .u64 a) = .returned (.int .u64 b) := by rw [h]
set_option maxRecDepth 100000 in
theorem refZig_any (d : Nat) (w : World) (hd : d < 18446744073709551616) : Calls Try.prog 20 #[.int .u64 d] w fun e w' => e = .returned (.int .u64 (Num.zig d : Nat)) ∧ w = w' := by
  by_cases h : (9223372036854775808 : Int) ≤ (d : Int)
  · have HZ := hide (show 2 * (18446744073709551615 - (d : Int)) + 1 = ((Num.zig d : Nat) : Int) by unfold Num.zig; rw [if_pos (by omega)]; omega)
    have HD := hide hd
    clear hd
    have hd' : (d : Int) ≤ 18446744073709551615 := by have := HD.out; omega
    go_enter Try.func20, Try.ntmps20
    go_wp2
    go_ret
    exact ⟨ret_u64 HZ.out, rfl⟩
  · have HZ := hide (show 2 * (d : Int) = ((Num.zig d : Nat) : Int) by unfold Num.zig; rw [if_neg (by omega)]; omega)
    clear hd
    have h' : (d : Int) ≤ 9223372036854775807 := by omega
    have hge : decide ((9223372036854775808 : Int) ≤ (d : Int)) = false := by simp; omega
    clear h
    go_enter Try.func20, Try.ntmps20
    go_wp2
    go_ret
    exact ⟨ret_u64 HZ.out, rfl⟩
set_option maxRecDepth 100000 in
theorem refZag_any (z : Nat) (w : World) (hz : z < 18446744073709551616) : Calls Try.prog 22 #[.int .u64 z] w fun e w' => e = .returned (.int .u64 (Num.zag z : Nat)) ∧ w = w' := by
  by_cases h : z % 2 = 1
  · have HZ := hide (show 18446744073709551615 - (z : Int) / 2 = ((Num.zag z : Nat) : Int) by unfold Num.zag; rw [if_pos h]; omega)
    have ht : ((z : Int) % 2 == 1) = true := by simp; omega
    clear h
    go_enter Try.func22, Try.ntmps22
    go_wp2
    go_ret
    exact ⟨ret_u64 HZ.out, rfl⟩
  · have HZ := hide (show (z : Int) / 2 = ((Num.zag z : Nat) : Int) by unfold Num.zag; rw [if_neg h]; omega)
    have ht : ((z : Int) % 2 == 1) = false := by simp; omega
    clear h
    go_enter Try.func22, Try.ntmps22
    go_wp2
    go_ret
    exact ⟨ret_u64 HZ.out, rfl⟩
end Go.Proofs.Ytgnmdpklkmlpfaa
