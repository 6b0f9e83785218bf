/- Contracts of the row of bits: number and zerosFrom. -/
import Derived.Test.YtabhemmmefefgaaBitMath
import Derived.Test.YtabhemmmefefgaaMod
import Derived.Deep.QuietTactic
import Derived.BigQuiet
namespace Go.Proofs.Ytabhemmmefefgaa
open Go.RowKit

theorem Bit.take_byte (X d k t : Nat) (c : UInt8) (hX : X < 2 ^ d) (hd : d + k ≤ 64) (hk : k ≤ 8) :
    bits .or .u64 (IntKind.u64.wrap ((X : Int) * 2 ^ k)) (bits .and .u64 (IntKind.u64.wrap (c.toNat : Int) / 2 ^ t) (IntKind.u64.wrap (IntKind.u64.wrap (2 ^ k) - 1))) = ((X * 2 ^ k + c.toNat / 2 ^ t % 2 ^ k : Nat) : Int) := by
  have hc := c.toNat_lt
  have hXk : X * 2 ^ k < 2 ^ 64 := by
    have h1 : X * 2 ^ k < 2 ^ d * 2 ^ k := Nat.mul_lt_mul_of_pos_right hX (Nat.two_pow_pos k)
    rw [← Nat.pow_add] at h1
    exact Nat.lt_of_lt_of_le h1 (Nat.pow_le_pow_right (by omega) hd)
  have hk2 : 2 ^ k ≤ 256 := Nat.pow_le_pow_right (n := 2) (by omega) hk
  have hk0 : 0 < 2 ^ k := Nat.two_pow_pos k
  have e1 : IntKind.u64.wrap ((X : Int) * 2 ^ k) = ((X * 2 ^ k : Nat) : Int) := by
    have : (X : Int) * 2 ^ k = ((X * 2 ^ k : Nat) : Int) := by simp only [Int.natCast_mul, Int.natCast_pow]; rfl
    rw [this, IntKind.wrap_u64]
    omega
  have e2 : IntKind.u64.wrap (c.toNat : Int) / 2 ^ t = ((c.toNat / 2 ^ t : Nat) : Int) := by
    have h1 : IntKind.u64.wrap (c.toNat : Int) = (c.toNat : Int) := by rw [IntKind.wrap_u64]; omega
    rw [h1]
    simp only [Int.natCast_ediv, Int.natCast_pow]; rfl
  have e3 : IntKind.u64.wrap (IntKind.u64.wrap (2 ^ k) - 1) = ((2 ^ k - 1 : Nat) : Int) := by
    have : (2 : Int) ^ k = ((2 ^ k : Nat) : Int) := by simp only [Int.natCast_pow]; rfl
    rw [this, IntKind.wrap_u64, IntKind.wrap_u64]
    omega
  have hdiv : c.toNat / 2 ^ t < 2 ^ 64 := Nat.lt_of_le_of_lt (Nat.div_le_self _ _) (by omega)
  rw [e1, e2, e3, u64_and_nat _ _ hdiv (by omega), Nat.and_two_pow_sub_one_eq_mod]
  have hm : c.toNat / 2 ^ t % 2 ^ k < 2 ^ k := Nat.mod_lt _ hk0
  rw [u64_or_nat _ _ hXk (by omega), Nat.mul_comm X, ← Nat.two_pow_add_eq_or_of_lt hm]

set_option maxHeartbeats 1000000 in
theorem number_any {w : World} {g : Nat} {A : Option Addr} {c : Nat} {l : List UInt8} (q n : Nat) (h0 : w.cell? ⟨g, 0, none⟩ = some (.slice A l.length c)) (hg : g < w.heap.size) (hb : Bytes w w.heap.size A l.length l)
    (hn : n ≤ 64) (hfit : q + n ≤ 8 * l.length) (hl : l.length ≤ 1000000000) :
    Calls Try.prog 47 #[.pointer (some ⟨g, 0, none⟩), .int .i64 q, .int .i64 n] w fun e w' => e = .returned (.int .u64 (Bit.val (fun i => Bit.at_ l (q + i)) n : Nat)) ∧ Qt w w' := by
  go_enter Try.func47, Try.ntmps47
  go_wp2
  go_loopw [1, 2, 7] (fun p m x wr => ∃ k : Nat, k ≤ n ∧ p = .int .i64 ((q + k : Nat) : Int) ∧ m = .int .i64 ((n - k : Nat) : Int) ∧ x = .int .u64 (Bit.val (fun i => Bit.at_ l (q + i)) k : Nat) ∧ Qt w wr) (fun _ m _ _ => (intOf m).toNat)
  case atStart => exact ⟨0, by omega, by simp, by simp, rfl, Qt.refl _⟩
  case round =>
    obtain ⟨d, hd, rfl, rfl, rfl, hE⟩ := hrel
    by_cases hlt : d < n
    · obtain ⟨hll, hb'⟩ := hb
      rcases hb' with h | ⟨b, off, rfl, hB, hcells⟩
      · omega
      have d0 := (hE.ext.cell hg).trans h0
      have hc := (hE.ext.cell hB).trans (hcells ((q + d) / 8) (by omega))
      clear hcells
      obtain ⟨m, hm⟩ : ∃ m, m = n - d := ⟨_, rfl⟩
      obtain ⟨s, hs⟩ : ∃ s, s = q + d := ⟨_, rfl⟩
      obtain ⟨k, hk⟩ : ∃ k, k = min m (8 - s % 8) := ⟨_, rfl⟩
      have hmin : (if (8 - (s : Int) % 8) < (m : Int) then (8 - (s : Int) % 8) else (m : Int)) = (k : Int) := by split <;> omega
      rw [← hm, ← hs]
      rw [← hs] at hc
      have hm64 : m ≤ 64 := by omega
      have hm0 : 0 < m := by omega
      have hkm : k ≤ m := by omega
      have hk8 : k ≤ 8 := by omega
      have hqL : (s : Int) / 8 < (l.length : Int) := by omega
      have HV := hide (Bit.val_add (fun i => Bit.at_ l (q + i)) d k)
      have HY := hide (Bit.val_byte l s k (by omega))
      have HT := hide (Bit.take_byte (Bit.val (fun i => Bit.at_ l (q + i)) d) d k (8 - s % 8 - k) (l.getD (s / 8) 0) (Bit.val_lt _ _) (by omega) (by omega))
      generalize Bit.val (fun i => Bit.at_ l (q + i)) d = X at *
      have Hm := hide hm
      have Hk := hide hk
      have Hs := hide hs
      clear hm hk hs
      go_wp2_with (refine wpList_min rfl (.tmp 15) (.tmp 16) rfl rfl rfl hmin ?_)
      go_quiet (fail)
      go_wp2
      go_roundw
      case rel =>
        have hm := Hm.out
        have hs := Hs.out
        refine ⟨d + k, by omega, ?_, ?_, ?_, hE.drewN _⟩
        · rw [show ((s : Int) + k) = ((q + (d + k) : Nat) : Int) by omega]
        · rw [show ((m : Int) - k) = ((n - (d + k) : Nat) : Int) by omega]
        · rw [HV.out, show (fun i => Bit.at_ l (q + (d + i))) = (fun i => Bit.at_ l (s + i)) by funext i; rw [hs, Nat.add_assoc], HY.out, ← HT.out, List.getD_eq_getElem?_getD]
      case measure => simp [intOf]; omega
    · obtain rfl : d = n := by omega
      go_wp2
      go_ret
      exact ⟨rfl, hE⟩
end Go.Proofs.Ytabhemmmefefgaa
