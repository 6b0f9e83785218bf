/- Contracts of the sum of parts, and of bytes. -/
import Derived.Test.YtcoegdkkogoaiaaDoorCrcRef
import Derived.Test.YtcoegdkkogoaiaaDoorParts
namespace Go.Proofs.YtcoegdkkogoaiaaDoor
open Go.RowKit

/-- What rows of bytes, one behind the other, make of a register. -/
def Crc.folds (x : Nat) (ls : List (List UInt8)) : Nat := Crc.fold x ls.flatten
theorem Crc.folds_take (r : Nat) (ls : List (List UInt8)) (k : Nat) (h : k < ls.length) : Crc.folds r (ls.take (k + 1)) = Crc.fold (Crc.folds r (ls.take k)) (ls.getD k []) := by
  unfold Crc.folds
  rw [List.take_succ_eq_append_getElem h, List.flatten_append, Crc.fold_append, List.getD_eq_getElem?_getD, List.getElem?_eq_getElem h]
  simp

theorem Crc.not_bits (s : Nat) (h : s < 4294967296) : bits .xor .u32 IntKind.u32.max (s : Int) = ((4294967295 - s : Nat) : Int) := by
  have hm : IntKind.u32.max = ((4294967295 : Nat) : Int) := by decide
  have e : (4294967295 : Nat) ^^^ s = 4294967295 - s := by
    have h1 := congrArg BitVec.toNat (BitVec.allOnes_xor (x := BitVec.ofNat 32 s))
    rw [BitVec.toNat_xor, BitVec.toNat_not, BitVec.toNat_ofNat, BitVec.toNat_allOnes, Nat.mod_eq_of_lt (by omega : s < 2 ^ 32)] at h1
    exact h1
  rw [hm, u32_xor_nat _ _ (by decide) h, e]

set_option maxHeartbeats 400000 in
theorem more_any (s : Nat) (A : Option Addr) (n c : Nat) (ls : List (List UInt8)) (w : World) (h : s < 4294967296) (hn : n ≤ maxLen) (ht : Tab w) (hb : Parts w w.heap.size A n ls) :
    Calls Tryd.prog 13 #[.int .u32 s, .slice A n c] w fun e w' => e = .returned (.int .u32 ((4294967295 - Crc.folds (4294967295 - s) ls : Nat) : Int)) ∧ w = w' := by
  unfold maxLen at hn
  obtain ⟨hl, hb⟩ := hb
  have hs := Crc.not_bits s h
  have hs' : 4294967295 - s < 4294967296 := by omega
  generalize 4294967295 - s = r at *
  rcases hb with rfl | ⟨b, off, rfl, hB, hc⟩
  · obtain rfl := List.eq_nil_of_length_eq_zero hl
    have hr := Crc.not_bits r hs'
    have HF := hide (show Crc.folds r [] = r from rfl)
    go_enter Tryd.func13, Tryd.ntmps13
    go_wp2
    go_loop [5, 12] (fun x i => x = .int .u32 r ∧ i = .int .i64 0) (fun _ _ => 0)
    case atStart => exact ⟨rfl, rfl⟩
    case round =>
      obtain ⟨rfl, rfl⟩ := hrel
      go_wp2
      go_ret
      exact ⟨ret_u32 (by rw [HF.out]), rfl⟩
  · go_enter Tryd.func13, Tryd.ntmps13
    go_wp2
    go_loop [5, 12] (fun x i => ∃ k : Nat, k ≤ n ∧ i = .int .i64 k ∧ x = .int .u32 (Crc.folds r (ls.take k) : Nat)) (fun _ i => n - (intOf i).toNat)
    case atStart => exact ⟨0, by omega, rfl, by simp [Crc.folds, Crc.fold_nil]⟩
    case round =>
      obtain ⟨k, hk, rfl, rfl⟩ := hrel
      have hfl := Crc.fold_lt (ls.take k).flatten r hs'
      change Crc.folds r (ls.take k) < _ at hfl
      by_cases hlt : k < n
      · have HS := hide (Crc.folds_take r ls k (by omega))
        obtain ⟨A', n', c', hcell, hn', hby⟩ := hc k hlt
        clear hc
        generalize Crc.folds r (ls.take k) = y at *
        generalize ls.getD k [] = z at *
        go_wp2_with (go_at_call 22; refine (takeBytes_any _ _ _ _ _ _ hfl hn' ht hby).mono ?_; rintro e w' ⟨rfl, rfl⟩)
        go_round
        case rel => exact ⟨k + 1, by omega, by go_num, by rw [HS.out]⟩
        case measure => simp [intOf]; omega
      · obtain rfl : k = n := by omega
        rw [List.take_of_length_le (by omega : ls.length ≤ k)] at *
        have hr := Crc.not_bits _ hfl
        go_wp2
        go_ret
        exact ⟨rfl, rfl⟩

theorem Parts.one {w : World} {A : Option Addr} {n c : Nat} {l : List UInt8} (t : TypeId) (hn : n ≤ maxLen) (hb : Bytes w w.heap.size A n l) :
    Parts (w.alloc (.cells #[.slice A n c] t)) (w.alloc (.cells #[.slice A n c] t)).heap.size (some ⟨w.heap.size, 0, none⟩) 1 [l] := by
  refine ⟨rfl, .inr ⟨w.heap.size, 0, rfl, by simp, fun i hi => ?_⟩⟩
  obtain rfl : i = 0 := by omega
  exact ⟨A, n, c, cellNew w _ t _ 0, hn, (hb.below (belowNew w _) (Nat.le_refl _)).mono (by simp)⟩

/-- The document's sum. -/
def Crc.sum (l : List UInt8) : Nat := 4294967295 - Crc.fold 4294967295 l

set_option maxHeartbeats 400000 in
theorem sum_any (A : Option Addr) (n c : Nat) (l : List UInt8) (w : World) (hn : n ≤ maxLen) (h0 : 0 < w.heap.size) (ht : Tab w) (hb : Bytes w w.heap.size A n l) :
    Calls Tryd.prog 11 #[.slice A n c] w fun e w' => e = .returned (.int .u32 (Crc.sum l : Nat)) ∧ Below w.heap.size w w' := by
  have hp := Parts.one (c := c) 22 hn hb
  have ht' := ht.below (belowNew w (.cells #[.slice A n c] 22)) h0
  have HS := hide (show Crc.sum l = 4294967295 - Crc.folds 4294967295 [l] by simp [Crc.sum, Crc.folds])
  have hbl := belowNew w (.cells #[.slice A n c] 22)
  go_enter Tryd.func11, Tryd.ntmps11
  go_wp2_with (go_at_call 13; refine (more_any 0 _ _ _ _ _ (by decide) (by decide) ht' hp).mono ?_; rintro e w' ⟨rfl, rfl⟩)
  go_ret
  exact ⟨ret_u32 (by rw [HS.out]), hbl⟩
end Go.Proofs.YtcoegdkkogoaiaaDoor
