/- Contracts of the document's own loop over bytes. -/
import Derived.Test.YtcoegdkkogoaiaaDoorCrcTake
namespace Go.Proofs.YtcoegdkkogoaiaaDoor
open Go.RowKit

theorem Crc.not_eq (x : Nat) (h : x < 4294967296) : (4294967295 : Int) - (x : Int) = ((4294967295 - x : Nat) : Int) := by omega

set_option maxHeartbeats 400000 in
theorem refMore_any (s : Nat) (A : Option Addr) (n c : Nat) (l : List UInt8) (w : World) (h : s < 4294967296) (hn : n ≤ maxLen) (hb : Bytes w w.heap.size A n l) :
    Calls Tryd.prog 14 #[.int .u32 s, .slice A n c] w fun e w' => e = .returned (.int .u32 ((4294967295 - Crc.fold (4294967295 - s) l : Nat) : Int)) ∧ w = w' := by
  unfold maxLen at hn
  obtain ⟨hl, hb⟩ := hb
  have hs := Crc.not_eq s h
  have hs' : 4294967295 - s < 4294967296 := by omega
  generalize 4294967295 - s = r at *
  rcases hb with rfl | ⟨b, off, rfl, hB, hc⟩
  · obtain rfl := List.eq_nil_of_length_eq_zero hl
    rw [Crc.fold_nil]
    have hr := Crc.not_eq r hs'
    generalize 4294967295 - r = q at *
    go_enter Tryd.func14, Tryd.ntmps14
    go_wp2
    go_loop [5, 6, 7] (fun x i _ => x = .int .u32 r ∧ i = .int .i64 0) (fun _ _ _ => 0)
    case atStart => exact ⟨rfl, rfl⟩
    case round =>
      obtain ⟨rfl, rfl⟩ := hrel
      go_wp2
      go_ret
      exact ⟨rfl, rfl⟩
  · go_enter Tryd.func14, Tryd.ntmps14
    go_wp2
    go_loop [5, 6, 7] (fun x i _ => ∃ k : Nat, k ≤ n ∧ i = .int .i64 k ∧ x = .int .u32 (Crc.fold r (l.take k) : Nat)) (fun _ i _ => n - (intOf i).toNat)
    case atStart => exact ⟨0, by omega, rfl, by simp [Crc.fold_nil]⟩
    case round =>
      obtain ⟨k, hk, rfl, rfl⟩ := hrel
      by_cases hlt : k < n
      · have HS := hide (Crc.fold_take r l k (by omega))
        have hfl := Crc.fold_lt (l.take k) r hs'
        have hcell := hc k hlt
        clear hc
        generalize Crc.fold r (l.take k) = y at *
        have hx := Crc.xor_byte y (l.getD k 0) hfl
        have hxl := Crc.xor_lt y (l.getD k 0) hfl
        generalize l.getD k 0 = z at *
        go_wp2
        go_loop [5, 7] (fun x j => ∃ m : Nat, m ≤ 8 ∧ j = .int .i64 m ∧ x = .int .u32 (Crc.run m (y ^^^ z.toNat) : Nat)) (fun _ j => 8 - (intOf j).toNat)
        case atStart => exact ⟨0, by omega, rfl, rfl⟩
        case round =>
          obtain ⟨m, hm, rfl, rfl⟩ := hrel
          by_cases hm8 : m < 8
          · have hrl := Crc.run_lt32 m hxl
            have HR := hide (Crc.run_add m 1 (y ^^^ z.toNat))
            generalize Crc.run m (y ^^^ z.toNat) = q at *
            go_wp2_with (go_at_call 23; refine (refBit_any _ _ hrl).mono ?_; rintro e w' ⟨rfl, rfl⟩)
            go_round
            case rel => exact ⟨m + 1, by omega, by go_num, by rw [HR.out]; rfl⟩
            case measure => simp [intOf]; omega
          · obtain rfl : m = 8 := by omega
            go_wp2
            go_round
            case rel => exact ⟨k + 1, by omega, by go_num, by rw [HS.out]⟩
            case measure => simp [intOf]; omega
      · obtain rfl : k = n := by omega
        rw [List.take_of_length_le (by omega : l.length ≤ k)]
        have hf := Crc.fold_lt l r hs'
        have hr := Crc.not_eq _ hf
        go_wp2
        go_ret
        exact ⟨rfl, rfl⟩

set_option maxHeartbeats 400000 in
theorem refSum_any (A : Option Addr) (n c : Nat) (l : List UInt8) (w : World) (hn : n ≤ maxLen) (hb : Bytes w w.heap.size A n l) :
    Calls Tryd.prog 12 #[.slice A n c] w fun e w' => e = .returned (.int .u32 ((4294967295 - Crc.fold 4294967295 l : Nat) : Int)) ∧ w = w' := by
  go_enter Tryd.func12, Tryd.ntmps12
  go_wp2_with (go_at_call 14; refine (refMore_any 0 _ _ _ _ _ (by decide) hn hb).mono ?_; rintro e w' ⟨rfl, rfl⟩)
  go_ret
  exact ⟨rfl, rfl⟩
end Go.Proofs.YtcoegdkkogoaiaaDoor
