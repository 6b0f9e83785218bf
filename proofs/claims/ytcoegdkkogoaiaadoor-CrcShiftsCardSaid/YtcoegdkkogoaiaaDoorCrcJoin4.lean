/- The joins as the laws use them; the document's own join. -/
import Derived.Test.YtcoegdkkogoaiaaDoorCrcJoin3
import Derived.Test.YtcoegdkkogoaiaaDoorCrcGives
import Derived.Test.YtcoegdkkogoaiaaDoorCrcTurnMath
namespace Go.Proofs.YtcoegdkkogoaiaaDoor
open Go.RowKit

theorem join_gives {w : World} {a b N : Nat} (ha : a < 4294967296) (hb : b < 4294967296) (hN : N < 9223372036854775808) (ht : Tab w) (h0 : 0 < w.heap.size) :
    Gives w 20 #[.int .u32 a, .int .u32 b, .int .i64 N] (.int .u32 ((Crc.run (8 * N) a ^^^ b : Nat) : Int)) := fun _ h =>
  (join_any a b N _ ha hb hN (h.tab ht h0) (Nat.lt_of_lt_of_le h0 h.size)).mono fun _ _ ⟨he, hw⟩ => ⟨he, h.trans hw, hw⟩
theorem join_neg {w : World} {a b : Nat} {n : Int} (hn : n < 0) : Gives w 20 #[.int .u32 a, .int .u32 b, .int .i64 n] (.int .u32 0) := fun W h => by
  go_enter Tryd.func20, Tryd.ntmps20
  go_wp2
  go_ret
  exact ⟨rfl, h, Ext.refl _⟩

set_option maxHeartbeats 1000000 in
theorem refJoin_any (a b N : Nat) (w : World) (ha : a < 4294967296) (hb : b < 4294967296) (hN : N < 10000) :
    Calls Tryd.prog 21 #[.int .u32 a, .int .u32 b, .int .i64 N] w fun e w' => e = .returned (.int .u32 ((Crc.run (8 * N) a ^^^ b : Nat) : Int)) ∧ w = w' := by
  go_enter Tryd.func21, Tryd.ntmps21
  go_wp2
  go_loop [0, 7, 8] (fun x i _ => ∃ k : Nat, k ≤ N ∧ i = .int .i64 k ∧ x = .int .u32 ((Crc.run (8 * k) a : Nat) : Int)) (fun _ i _ => N - (intOf i).toNat)
  case atStart => exact ⟨0, by omega, rfl, rfl⟩
  case round =>
    obtain ⟨k, hk, rfl, rfl⟩ := hrel
    have hr : Crc.run (8 * k) a < 4294967296 := Crc.run_lt32 _ ha
    by_cases hlt : k < N
    · have HS := hide (show Crc.run (8 * (k + 1)) a = Crc.run 8 (Crc.run (8 * k) a) by rw [Nat.mul_add, Crc.run_add])
      generalize Crc.run (8 * k) a = y at *
      go_wp2
      go_loop [0, 8] (fun x j => ∃ m : Nat, m ≤ 8 ∧ j = .int .i64 m ∧ x = .int .u32 (Crc.run m y : Nat)) (fun _ j => 8 - (intOf j).toNat)
      case atStart => exact ⟨0, by omega, rfl, rfl⟩
      case round =>
        obtain ⟨m, hm, rfl, rfl⟩ := hrel
        by_cases hm8 : m < 8
        · have hrl : Crc.run m y < 4294967296 := Crc.run_lt32 m hr
          have HR := hide (Crc.run_add m 1 y)
          generalize Crc.run m y = q at *
          go_wp2_with (go_at_call 23; refine (refBit_any _ _ hrl).mono ?_; rintro e w' ⟨rfl, rfl⟩)
          go_round
          case rel => exact ⟨m + 1, by omega, by go_num, by rw [HR.out]; rfl⟩
          case measure => simp [intOf]; omega
        · obtain rfl : m = 8 := by omega
          go_wp2
          go_round
          case rel => exact ⟨k + 1, by omega, by go_num, by rw [HS.out]⟩
          case measure => simp [intOf]; omega
    · obtain rfl : k = N := by omega
      have hx := u32_xor_nat _ b hr hb
      generalize hR : Crc.run (8 * k) a = r at *
      have HR := hide hR
      clear hR
      go_wp2
      go_ret
      exact ⟨ret_u32 (by rw [HR.out]), rfl⟩
theorem refJoin_gives {w : World} {a b N : Nat} (ha : a < 4294967296) (hb : b < 4294967296) (hN : N < 10000) :
    Gives w 21 #[.int .u32 a, .int .u32 b, .int .i64 N] (.int .u32 ((Crc.run (8 * N) a ^^^ b : Nat) : Int)) := fun W h =>
  (refJoin_any a b N _ ha hb hN).mono fun _ _ ⟨he, hw⟩ => ⟨he, hw ▸ h, hw ▸ Ext.refl W⟩

theorem Crc.sum_join (a b : List UInt8) : Crc.run (8 * b.length) (Crc.sum a) ^^^ Crc.sum b = Crc.sum (a ++ b) := by
  have h1 := Crc.fold_lt a 4294967295 (by omega)
  have h2 := Crc.fold_lt b 4294967295 (by omega)
  have h3 := Crc.fold_lt b (Crc.fold 4294967295 a) h1
  unfold Crc.sum
  rw [Crc.fold_append, ← Crc.not_xor _ h1, ← Crc.not_xor _ h2, ← Crc.not_xor _ h3, Crc.fold_eq b, Crc.fold_eq b, Crc.run_xor, Crc.run_xor, Crc.run_xor]
  generalize Crc.run (8 * b.length) 4294967295 = I
  generalize Crc.run (8 * b.length) (Crc.fold 4294967295 a) = x
  generalize Crc.run (8 * b.length) (Crc.num b) = y
  have : I ^^^ x ^^^ (4294967295 ^^^ (I ^^^ y)) = (I ^^^ I) ^^^ (4294967295 ^^^ (x ^^^ y)) := by ac_rfl
  rw [this]; simp
end Go.Proofs.YtcoegdkkogoaiaaDoor
