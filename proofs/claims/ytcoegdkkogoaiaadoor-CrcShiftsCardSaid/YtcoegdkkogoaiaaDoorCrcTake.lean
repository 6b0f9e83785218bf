/- Contracts of the loops over bytes: what bytes make of a register. -/
import Derived.Test.YtcoegdkkogoaiaaDoorCrcBit
namespace Go.Proofs.YtcoegdkkogoaiaaDoor
open Go.RowKit

theorem Crc.xor_byte (r : Nat) (c : UInt8) (h : r < 4294967296) : bits .xor .u32 (r : Int) ((c.toNat : Int) % 4294967296) = ((r ^^^ c.toNat : Nat) : Int) := by
  have hc : (c.toNat : Int) % 4294967296 = (c.toNat : Int) := by have := c.toNat_lt; omega
  rw [hc]
  exact u32_xor_nat r c.toNat h (Nat.lt_trans c.toNat_lt (by decide))

theorem Crc.xor_lt (r : Nat) (c : UInt8) (h : r < 4294967296) : r ^^^ c.toNat < 4294967296 :=
  Nat.xor_lt_two_pow (n := 32) h (Nat.lt_trans c.toNat_lt (by decide))

theorem Crc.fold_take (r : Nat) (l : List UInt8) (k : Nat) (h : k < l.length) : Crc.fold r (l.take (k + 1)) = Crc.run 8 (Crc.fold r (l.take k) ^^^ (l.getD k 0).toNat) := by
  rw [List.take_succ_eq_append_getElem h, Crc.fold_append, Crc.fold_cons, Crc.fold_nil, Crc.step8, List.getD_eq_getElem?_getD, List.getElem?_eq_getElem h]
  rfl

set_option maxHeartbeats 400000 in
theorem takeBytes_any (r : Nat) (A : Option Addr) (n c : Nat) (l : List UInt8) (w : World) (h : r < 4294967296) (hn : n ≤ maxLen) (ht : Tab w) (hb : Bytes w w.heap.size A n l) :
    Calls Tryd.prog 22 #[.int .u32 r, .slice A n c] w fun e w' => e = .returned (.int .u32 (Crc.fold r l : Nat)) ∧ w = w' := by
  unfold maxLen at hn
  obtain ⟨hl, hb⟩ := hb
  rcases hb with rfl | ⟨b, off, rfl, hB, hc⟩
  · obtain rfl := List.eq_nil_of_length_eq_zero hl
    rw [Crc.fold_nil]
    go_enter Tryd.func22, Tryd.ntmps22
    go_wp2
    go_loop [0, 9] (fun x i => x = .int .u32 r ∧ i = .int .i64 0) (fun _ _ => 0)
    case atStart => exact ⟨rfl, rfl⟩
    case round =>
      obtain ⟨rfl, rfl⟩ := hrel
      go_wp2
      go_ret
      exact ⟨rfl, rfl⟩
  · go_enter Tryd.func22, Tryd.ntmps22
    go_wp2
    go_loop [0, 9] (fun x i => ∃ k : Nat, k ≤ n ∧ i = .int .i64 k ∧ x = .int .u32 (Crc.fold r (l.take k) : Nat)) (fun _ i => n - (intOf i).toNat)
    case atStart => exact ⟨0, by omega, rfl, by simp [Crc.fold_nil]⟩
    case round =>
      obtain ⟨k, hk, rfl, rfl⟩ := hrel
      by_cases hlt : k < n
      · have HS := hide (Crc.fold_take r l k (by omega))
        have hfl := Crc.fold_lt (l.take k) r h
        have hcell := hc k hlt
        clear hc
        generalize Crc.fold r (l.take k) = y at *
        have hx := Crc.xor_byte y (l.getD k 0) hfl
        have hxl := Crc.xor_lt y (l.getD k 0) hfl
        generalize l.getD k 0 = z at *
        go_wp2_with (go_at_call 30; refine (shiftByte_any _ _ hxl ht).mono ?_; rintro e w' ⟨rfl, rfl⟩)
        go_round
        case rel => exact ⟨k + 1, by omega, by go_num, by rw [HS.out]⟩
        case measure => simp [intOf]; omega
      · obtain rfl : k = n := by omega
        go_wp2
        go_ret
        exact ⟨ret_u32 (by rw [List.take_of_length_le (by omega)]), rfl⟩
end Go.Proofs.YtcoegdkkogoaiaaDoor
