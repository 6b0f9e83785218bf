/- Contracts of the program's numbers: Zig, Zag, Num, Text. -/
import Derived.Test.YtgnmdpklkmlpfaaNumText
namespace Go.Proofs.Ytgnmdpklkmlpfaa
open Go.RowKit

theorem Num.ones_xor (s : Nat) (h : s < 2 ^ 64) : (18446744073709551615 : Nat) ^^^ s = 18446744073709551615 - s := by
  have h1 := congrArg BitVec.toNat (BitVec.allOnes_xor (x := BitVec.ofNat 64 s))
  rw [BitVec.toNat_xor, BitVec.toNat_not, BitVec.toNat_ofNat, BitVec.toNat_allOnes, Nat.mod_eq_of_lt h] at h1
  exact h1
theorem Num.zig_bits (d : Nat) (h : d < 18446744073709551616) : bits .xor .u64 (IntKind.u64.wrap ((d : Int) * 2)) (IntKind.u64.wrap (-((d : Int) / 9223372036854775808))) = ((Num.zig d : Nat) : Int) := by
  unfold Num.zig
  by_cases hd : 2 ^ 63 ≤ d
  · have e1 : IntKind.u64.wrap ((d : Int) * 2) = ((2 * d - 18446744073709551616 : Nat) : Int) := by rw [IntKind.wrap_u64]; omega
    have e2 : IntKind.u64.wrap (-((d : Int) / 9223372036854775808)) = ((18446744073709551615 : Nat) : Int) := by rw [IntKind.wrap_u64]; omega
    rw [if_pos hd, e1, e2, u64_xor_nat _ _ (by omega) (by decide), Nat.xor_comm, Num.ones_xor _ (by omega)]
    omega
  · have e1 : IntKind.u64.wrap ((d : Int) * 2) = ((2 * d : Nat) : Int) := by rw [IntKind.wrap_u64]; omega
    have e2 : IntKind.u64.wrap (-((d : Int) / 9223372036854775808)) = ((0 : Nat) : Int) := by rw [IntKind.wrap_u64]; omega
    rw [if_neg hd, e1, e2, u64_xor_nat _ _ (by omega) (by decide), Nat.xor_zero]
theorem Num.and1 (z : Nat) (h : z < 18446744073709551616) : bits .and .u64 (z : Int) 1 = ((z % 2 : Nat) : Int) := by
  rw [show (1 : Int) = ((1 : Nat) : Int) from rfl, u64_and_nat z 1 h (by omega), show 1 = 2 ^ 1 - 1 from rfl, Nat.and_two_pow_sub_one_eq_mod]
theorem Num.zag_bits (z : Nat) (h : z < 18446744073709551616) : bits .xor .u64 ((z : Int) / 2) (IntKind.u64.wrap (-(bits .and .u64 (z : Int) 1))) = ((Num.zag z : Nat) : Int) := by
  rw [Num.and1 z h]
  unfold Num.zag
  have e1 : (z : Int) / 2 = ((z / 2 : Nat) : Int) := by omega
  by_cases hd : z % 2 = 1
  · have e2 : IntKind.u64.wrap (-((z % 2 : Nat) : Int)) = ((18446744073709551615 : Nat) : Int) := by rw [IntKind.wrap_u64]; omega
    rw [if_pos hd, e1, e2, u64_xor_nat _ _ (by omega) (by decide), Nat.xor_comm, Num.ones_xor _ (by omega)]
  · have e2 : IntKind.u64.wrap (-((z % 2 : Nat) : Int)) = ((0 : Nat) : Int) := by rw [IntKind.wrap_u64]; omega
    rw [if_neg hd, e1, e2, u64_xor_nat _ _ (by omega) (by decide), Nat.xor_zero]

set_option maxHeartbeats 1000000 in
set_option maxRecDepth 100000 in
theorem ownZig_any (d : Nat) (w : World) (hd : d < 18446744073709551616) : Calls Try.prog 19 #[.int .u64 d] w fun e w' => e = .returned (.int .u64 (Num.zig d : Nat)) ∧ w = w' := by
  have H := hide (Num.zig_bits d hd)
  clear hd
  go_enter Try.func19, Try.ntmps19
  go_wp2
  go_ret
  exact ⟨ret_u64 H.out, rfl⟩

set_option maxHeartbeats 1000000 in
set_option maxRecDepth 100000 in
theorem ownZag_any (z : Nat) (w : World) (hz : z < 18446744073709551616) : Calls Try.prog 21 #[.int .u64 z] w fun e w' => e = .returned (.int .u64 (Num.zag z : Nat)) ∧ w = w' := by
  have H := hide (Num.zag_bits z hz)
  go_enter Try.func21, Try.ntmps21
  go_wp2
  go_ret
  exact ⟨ret_u64 H.out, rfl⟩

/-- A byte with 128 more. -/
theorem Num.or128 (z : Nat) : bits .or .u8 ((z : Int) % 256) 128 = ((128 + z % 128 : Nat) : Int) := by
  have e : (z : Int) % 256 = ((z % 256 : Nat) : Int) := by omega
  rw [e, show (128 : Int) = ((128 : Nat) : Int) from rfl, u8_or_nat _ _ (Nat.mod_lt _ (by decide)) (by decide)]
  have H : ∀ y, y < 256 → y ||| 128 = 128 + y % 128 := by decide +kernel
  rw [H _ (Nat.mod_lt z (by decide)), show z % 256 % 128 = z % 128 by omega]

set_option maxHeartbeats 1000000 in
set_option maxRecDepth 100000 in
theorem ownNum_any (x : Nat) (w : World) (hx : x < 18446744073709551616) : Calls Try.prog 14 #[.int .u64 x] w (MadeB w (Num.enc x)) := by
  go_enter Try.func14, Try.ntmps14
  go_wp2
  go_loopw [0, 3] (fun y v wr => ∃ (k z : Nat) (pre : List UInt8), y = .int .u64 (z : Int) ∧ z < 18446744073709551616 ∧ z < 128 ^ (10 - k) ∧ k ≤ 9 ∧ pre.length = k ∧ pre ++ Num.encF (10 - k) z = Num.enc x ∧ OwnB wr w.heap.size v pre ∧ Ext w wr) (fun y _ _ => (intOf y).toNat)
  case atStart => exact ⟨0, x, [], rfl, hx, Nat.lt_of_lt_of_le hx (by decide), by omega, rfl, rfl, OwnB.nil _ _, Ext.refl _⟩
  case round =>
    obtain ⟨k, z, pre, rfl, hz, hzk, hk, hlen, henc, hO, hE⟩ := hrel
    obtain ⟨f, hf⟩ : ∃ f, 10 - k = f + 1 := ⟨9 - k, by omega⟩
    rw [hf] at henc hzk
    have hfit : pre.length + 1 ≤ 140737488355328 := by omega
    by_cases hs : z < 128
    · rw [Num.encF_small hs] at henc
      have HE := hide henc
      obtain ⟨bt, rfl⟩ : ∃ bt : UInt8, z = bt.toNat := ⟨UInt8.ofNat z, by rw [Num.ofNat_low z (by omega)]⟩
      rw [UInt8.ofNat_toNat] at HE
      have hs' : ¬ (128 ≤ (bt.toNat : Int)) := by omega
      have hb1 := bytesNew wr [bt] #[.int .u8 (bt.toNat : Int)] 5 (0, 0) rfl 1 rfl
      have hO1 := hO.ext (extNew wr (.cells #[.int .u8 (bt.toNat : Int)] 5))
      have hE1 := hE.trans (extNew wr (.cells #[.int .u8 (bt.toNat : Int)] 5))
      have hB1 := hE1.le
      clear henc hlen hf
      go_wp2_with (at_builtin; refine wpList_appAt rfl (.tmp 14) (.tmp 17) rfl rfl hO1 rfl hb1 hfit hB1 ?_; intro v2 w2 hO2 hG2 hN2)
      go_ret
      exact ⟨v2, rfl, by rw [← HE.out]; exact hO2, hO1.below hE1 hG2 hB1⟩
    · rw [Num.encF_big hs] at henc
      have HE := hide henc
      have hk9 : k ≤ 8 := by
        rcases Nat.lt_or_ge k 9 with h | h
        · omega
        · obtain rfl : k = 9 := by omega
          obtain rfl : f = 0 := by omega
          simp at hzk
          omega
      have HF := hide (show 10 - (k + 1) = f by omega)
      have HZ := hide (show z / 128 < 128 ^ f by rw [Nat.pow_succ] at hzk; exact Nat.div_lt_of_lt_mul (by rw [Nat.mul_comm]; exact hzk))
      obtain ⟨bt, hbt⟩ : ∃ bt : UInt8, bt = UInt8.ofNat (128 + z % 128) := ⟨_, rfl⟩
      have hbn : bt.toNat = 128 + z % 128 := by rw [hbt]; exact Num.ofNat_low _ (by omega)
      rw [← hbt] at HE
      have hor := Num.or128 z
      rw [← hbn] at hor
      have hs' : 128 ≤ (z : Int) := by omega
      have hb1 := bytesNew wr [bt] #[.int .u8 (bt.toNat : Int)] 5 (0, 0) rfl 1 rfl
      have hO1 := hO.ext (extNew wr (.cells #[.int .u8 (bt.toNat : Int)] 5))
      have hE1 := hE.trans (extNew wr (.cells #[.int .u8 (bt.toNat : Int)] 5))
      have hB1 := hE1.le
      have HLen := hide hlen
      clear henc hlen hf hbt hbn hzk
      go_wp2_with (at_builtin; refine wpList_appAt rfl (.tmp 8) (.tmp 12) rfl rfl hO1 rfl hb1 hfit hB1 ?_; intro v2 w2 hO2 hG2 hN2)
      go_roundw
      case rel =>
        refine ⟨k + 1, z / 128, pre ++ [bt], ?_, by omega, by rw [HF.out]; exact HZ.out, by omega, by simp [HLen.out], by rw [HF.out, List.append_assoc]; exact HE.out, hO2, hO1.below hE1 hG2 hB1⟩
        rw [show ((z : Int) / 128) = ((z / 128 : Nat) : Int) by omega]
      case measure => simp [intOf]; omega

theorem ownText_any (s : ByteArray) (w : World) (hs : s.size ≤ 1000000) : Calls Try.prog 16 #[.string s] w (MadeB w (Num.enc s.size ++ s.data.toList)) := by
  have hw : IntKind.u64.wrap (s.size : Int) = (s.size : Int) := by rw [IntKind.wrap_u64]; omega
  have hl := Num.enc_len s.size
  have hfit : (Num.enc s.size).length + s.size ≤ 140737488355328 := by omega
  have CN := ownNum_any s.size w (by omega)
  generalize Num.enc s.size = E at *
  go_enter Try.func16, Try.ntmps16
  go_wp2_with (first
    | (go_at_call 14; refine CN.mono ?_; rintro e w2 ⟨v2, rfl, hO2, hE2⟩)
    | (at_builtin; refine wpList_appS rfl (.tmp 6) (.tmp 7) rfl rfl hO2 rfl hfit hE2.le ?_; intro v3 w3 hO3 hG3))
  go_ret
  exact ⟨v3, rfl, hO3, hO2.below hE2 hG3 hE2.le⟩
end Go.Proofs.Ytgnmdpklkmlpfaa
