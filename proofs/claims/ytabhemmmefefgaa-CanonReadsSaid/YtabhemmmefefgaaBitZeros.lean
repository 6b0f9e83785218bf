/- Contracts of the library's LeadingZeros8 and of the row's zerosFrom. -/
import Derived.Test.YtabhemmmefefgaaBitMath
import Derived.Test.YtabhemmmefefgaaMod
import Derived.Deep.QuietTactic
import Derived.BigQuiet
import Derived.Lib.BitFns
namespace Go.Proofs.Ytabhemmmefefgaa
open Go.RowKit

namespace Bit
/-- How many bits 0 stand ahead of a byte's first 1. -/
def lz (r : Nat) : Nat := 7 - r.log2
/-- A byte shifted up by s. -/
def up (c : UInt8) (s : Nat) : UInt8 := UInt8.ofNat (c.toNat * 2 ^ s)
theorem up_bit (c : UInt8) (s i : Nat) (hi : i < 8) (h : s + i < 8) : (up c s).toNat.testBit (7 - i) = c.toNat.testBit (7 - (s + i)) := by
  unfold up
  rw [UInt8.toNat_ofNat', Nat.testBit_mod_two_pow, decide_eq_true (show 7 - i < 8 by omega), Bool.true_and, Nat.testBit_mul_two_pow, decide_eq_true (show s ≤ 7 - i by omega), Bool.true_and]
  congr 1
  omega
theorem up_bit_low (c : UInt8) (s i : Nat) (hi : i < 8) (h : 8 ≤ s + i) : (up c s).toNat.testBit (7 - i) = false := by
  unfold up
  rw [UInt8.toNat_ofNat', Nat.testBit_mod_two_pow, Nat.testBit_mul_two_pow, decide_eq_false (show ¬ s ≤ 7 - i by omega)]
  simp
theorem lz_facts (r : UInt8) (h : r.toNat ≠ 0) : lz r.toNat < 8 ∧ (∀ i, i < lz r.toNat → r.toNat.testBit (7 - i) = false) ∧ r.toNat.testBit (7 - lz r.toNat) = true := by
  have hr := r.toNat_lt
  have h8 : r.toNat.log2 < 8 := (Nat.log2_lt h).2 hr
  unfold lz
  refine ⟨by omega, fun i hi => ?_, ?_⟩
  · apply Nat.testBit_lt_two_pow
    have h1 : r.toNat.log2 < 7 - i := by omega
    exact (Nat.log2_lt h).1 h1
  · rw [show 7 - (7 - r.toNat.log2) = r.toNat.log2 by omega]
    exact Nat.testBit_log2 h
end Bit

theorem shl_byte (c : UInt8) (s : Nat) : ((c.toNat : Int) * 2 ^ s) % 256 = ((Bit.up c s).toNat : Int) := by
  unfold Bit.up
  rw [UInt8.toNat_ofNat']
  simp only [Int.natCast_emod, Int.natCast_mul, Int.natCast_pow]
  rfl

theorem bitLen_log2 : ∀ n : Fin 256, n.val ≠ 0 → Lib.bitLen n.val = n.val.log2 + 1 := by decide +kernel
set_option maxRecDepth 100000 in
theorem len8_int_any (x : Int) (w : World) (h0 : 0 ≤ x) (h1 : x ≤ 255) : Calls Try.prog 48 #[.int .u8 x] w fun e w' => e = .returned (.int .i64 (Lib.bitLen x.toNat)) ∧ w = w' := by
  rw [← Lib.len8_int x h0 h1]
  go_enter Try.func48, Try.ntmps48
  go_wp2
  go_ret
  exact ⟨congrArg (fun v => Ending.returned (.int .i64 v)) (by simp only [wrap64]), rfl⟩
theorem len8_any (r : UInt8) (w : World) (h : r.toNat ≠ 0) : Calls Try.prog 48 #[.int .u8 (r.toNat : Int)] w fun e w' => e = .returned (.int .i64 ((r.toNat.log2 + 1 : Nat) : Int)) ∧ w = w' := by
  have hr := r.toNat_lt
  have e := bitLen_log2 ⟨r.toNat, hr⟩ h
  have C := len8_int_any (r.toNat : Int) w (by omega) (by omega)
  simp only [Int.toNat_natCast] at C e
  rw [← e]
  exact C
theorem lz8_any (r : UInt8) (w : World) (h : r.toNat ≠ 0) : Calls Try.prog 46 #[.int .u8 (r.toNat : Int)] w fun e w' => e = .returned (.int .i64 (Bit.lz r.toNat : Nat)) ∧ w = w' := by
  have h8 : r.toNat.log2 < 8 := (Nat.log2_lt h).2 r.toNat_lt
  have C := fun w => len8_any r w h
  have HL := hide (show ((Bit.lz r.toNat : Nat) : Int) = 7 - (r.toNat.log2 : Int) by unfold Bit.lz; omega)
  generalize Bit.lz r.toNat = z at *
  generalize r.toNat.log2 = L at *
  go_enter Try.func46, Try.ntmps46
  go_wp2_with (go_at_call 48; refine (C _).mono ?_; rintro e w2 ⟨rfl, rfl⟩)
  go_ret
  refine ⟨?_, rfl⟩
  rw [HL.out]
  exact congrArg (fun v => Ending.returned (.int .i64 v)) (by omega)

set_option maxHeartbeats 1000000 in
theorem zerosFrom_any {w : World} {g : Nat} {A : Option Addr} {c : Nat} {l : List UInt8} (q : Nat) (h0 : w.cell? ⟨g, 0, none⟩ = some (.slice A l.length c)) (h1 : w.cell? ⟨g, 1, none⟩ = some (.int .i64 ((8 * l.length : Nat) : Int))) (hg : g < w.heap.size) (hb : Bytes w w.heap.size A l.length l)
    (hq : q ≤ 8 * l.length) (hl : l.length ≤ 1000000000) :
    Calls Try.prog 41 #[.pointer (some ⟨g, 0, none⟩), .int .i64 q] w fun e w' => e = .returned (.int .i64 (Bit.zeros (8 * l.length - q) (fun i => Bit.at_ l (q + i)) : Nat)) ∧ Qt w w' := by
  go_enter Try.func41, Try.ntmps41
  go_wp2
  go_loopw [5, 6, 7] (fun m _ _ wr => ∃ k : Nat, q + k ≤ 8 * l.length ∧ m = .int .i64 (k : Int) ∧ (∀ i, i < k → Bit.at_ l (q + i) = false) ∧ Qt w wr) (fun m _ _ _ => 8 * l.length - (intOf m).toNat)
  case atStart => exact ⟨0, by omega, rfl, fun i hi => by omega, Qt.refl _⟩
  case round =>
    obtain ⟨k, hk, rfl, hz, hE⟩ := hrel
    have d0 := (hE.ext.cell hg).trans h0
    have d1 := (hE.ext.cell hg).trans h1
    by_cases hlt : q + k < 8 * l.length
    · obtain ⟨hll, hb'⟩ := hb
      rcases hb' with h | ⟨b, off, rfl, hB, hcells⟩
      · omega
      have hc := (hE.ext.cell hB).trans (hcells ((q + k) / 8) (by omega))
      have hup := shl_byte (l.getD ((q + k) / 8) 0) ((q + k) % 8)
      have HU1 := hide (Bit.up_bit (l.getD ((q + k) / 8) 0) ((q + k) % 8))
      have HU2 := hide (Bit.up_bit_low (l.getD ((q + k) / 8) 0) ((q + k) % 8))
      have HC := hide (show ∀ i, (q + k) % 8 + i < 8 → Bit.at_ l (q + (k + i)) = (l.getD ((q + k) / 8) 0).toNat.testBit (7 - ((q + k) % 8 + i)) from fun i hi => by
        unfold Bit.at_
        rw [show (q + (k + i)) / 8 = (q + k) / 8 by omega, show (q + (k + i)) % 8 = (q + k) % 8 + i by omega])
      generalize Bit.up (l.getD ((q + k) / 8) 0) ((q + k) % 8) = r at *
      generalize l.getD ((q + k) / 8) 0 = cc at *
      clear hcells
      have hlt' : (q : Int) + k < 8 * (l.length : Int) := by omega
      have hi8 : ((q : Int) + k) / 8 < (l.length : Int) := by omega
      by_cases hr0 : r.toNat = 0
      · have ht : (((r.toNat : Int)) != 0) = false := by simp [hr0]
        have hall : ∀ i, i < 8 - (q + k) % 8 → Bit.at_ l (q + (k + i)) = false := fun i hi => by
          rw [HC.out i (by omega), ← HU1.out i (by omega) (by omega), hr0]
          simp
        have HA := hide hall
        have HZ := hide hz
        clear hall hz hr0
        go_wp2
        go_roundw
        case rel =>
          refine ⟨k + (8 - (q + k) % 8), by omega, ?_, fun i hi => ?_, hE⟩
          · rw [show ((k : Int) + (8 - ((q : Int) + k) % 8)) = ((k + (8 - (q + k) % 8) : Nat) : Int) by omega]
          · by_cases hik : i < k
            · exact HZ.out i hik
            · have := HA.out (i - k) (by omega)
              rwa [show k + (i - k) = i by omega] at this
        case measure => simp [intOf]; omega
      · have ht : (((r.toNat : Int)) != 0) = true := by simp; omega
        obtain ⟨z8, zf, zt⟩ := Bit.lz_facts r hr0
        have hz8 : (q + k) % 8 + Bit.lz r.toNat < 8 := by
          rcases Nat.lt_or_ge ((q + k) % 8 + Bit.lz r.toNat) 8 with h | h
          · exact h
          · rw [HU2.out _ z8 h] at zt; cases zt
        have HR := hide (Bit.zeros_eq (n := 8 * l.length - q) (z := k + Bit.lz r.toNat) (f := fun i => Bit.at_ l (q + i)) (by omega) (fun i hi => by
          by_cases hik : i < k
          · exact hz i hik
          · have h1 := HC.out (i - k) (by omega)
            rw [show k + (i - k) = i by omega] at h1
            show Bit.at_ l (q + i) = false
            rw [h1, ← HU1.out (i - k) (by omega) (by omega)]
            exact zf (i - k) (by omega)) (fun _ => by
          show Bit.at_ l (q + (k + Bit.lz r.toNat)) = true
          rw [HC.out _ hz8, ← HU1.out _ z8 hz8]
          exact zt))
        have hlz : Bit.lz r.toNat ≤ 8 := by omega
        have C := fun w => lz8_any r w hr0
        have HZ := hide hz
        clear zf zt hz
        generalize Bit.lz r.toNat = z at *
        go_wp2_with (go_at_call 46; refine (C _).mono ?_; rintro e w2 ⟨rfl, rfl⟩)
        go_ret
        refine ⟨?_, hE⟩
        rw [HR.out]
        exact congrArg (fun v => Ending.returned (.int .i64 v)) (by omega)
    · have HR := hide (Bit.zeros_eq (n := 8 * l.length - q) (z := k) (f := fun i => Bit.at_ l (q + i)) (by omega) hz (fun h => by omega))
      have hge : ¬ ((q : Int) + k < 8 * (l.length : Int)) := by omega
      clear hz
      go_wp2
      go_ret
      refine ⟨?_, hE⟩
      rw [HR.out]
      exact congrArg (fun v => Ending.returned (.int .i64 v)) (by omega)
end Go.Proofs.Ytabhemmmefefgaa
