/- The law CrcShifts. -/
import Derived.Test.YtcoegdkkogoaiaaDoorCrcJoin4
import Derived.Test.YtcoegdkkogoaiaaDoorLaid
namespace Go.Proofs.YtcoegdkkogoaiaaDoor
open Go.RowKit

set_option maxHeartbeats 1000000 in
theorem crcShifts_walk (a b : Int) (n : Int) (m l : Int) (w : World) (ha : (Lit.int .u32 a).wf = true) (hb : (Lit.int .u32 b).wf = true) (hn : (Lit.int .u16 n).wf = true) (hm : (Lit.int .i64 m).wf = true) (hl : (Lit.int .i64 l).wf = true) (ht : Tab w) :
    Calls Tryd.prog 9 #[.int .u32 a, .int .u32 b, .int .u16 n, .int .i64 m, .int .i64 l] w fun e w' => e = .returned (.bool true) ∧ Below w.heap.size w w' := by
  have h0 := ht.pos
  have C0 := alive_gives h0 ht
  obtain ⟨a0, a1⟩ := bounds_u32 ha
  obtain ⟨b0, b1⟩ := bounds_u32 hb
  obtain ⟨n0, n1⟩ := bounds_u16 hn
  obtain ⟨m0, m1⟩ := bounds_i64 hm
  obtain ⟨l0, l1⟩ := bounds_i64 hl
  obtain ⟨a, rfl⟩ := Int.eq_ofNat_of_zero_le a0
  obtain ⟨b, rfl⟩ := Int.eq_ofNat_of_zero_le b0
  obtain ⟨k, hk⟩ : ∃ k : Nat, n % 2000 = k := ⟨(n % 2000).toNat, by omega⟩
  have hk2 : k < 2000 := by omega
  have C1 := join_gives (w := w) (a := a) (b := b) (N := k) (by omega) (by omega) (by omega) ht h0
  have C2 := refJoin_gives (w := w) (a := a) (b := b) (N := k) (by omega) (by omega) (by omega)
  have C3 := join_neg (w := w) (a := a) (b := b) (n := -1 - (k : Int)) (by omega)
  have C4 := hide (fun (x y N : Nat) (hx : x < 4294967296) (hy : y < 4294967296) (hN : N < 9223372036854775808) => join_gives (w := w) hx hy hN ht h0)
  have hrr : (((Crc.run (8 * k) a ^^^ b : Nat) : Int) != ((Crc.run (8 * k) a ^^^ b : Nat) : Int)) = false := by simp
  have HK := hide hk
  clear ha hb hn hm hl a0 b0 hk ht
  generalize Crc.run (8 * k) a ^^^ b = r at *
  by_cases hml : 0 ≤ m ∧ 0 ≤ l ∧ m ≤ 1152921504606846976 ∧ l ≤ 1152921504606846976
  · obtain ⟨hm0, hl0, hm1, hl1⟩ := hml
    obtain ⟨M, rfl⟩ := Int.eq_ofNat_of_zero_le hm0
    obtain ⟨L, rfl⟩ := Int.eq_ofNat_of_zero_le hl0
    have C5 := C4.out a 0 M (by omega) (by omega) (by omega)
    have hrm : Crc.run (8 * M) a ^^^ 0 < 4294967296 := by rw [Nat.xor_zero]; exact Crc.run_lt32 _ (by omega)
    have C6 := C4.out _ b L hrm (by omega) (by omega)
    have C7 := C4.out a b (M + L) (by omega) (by omega) (by omega)
    have HJ := hide (show Crc.run (8 * L) (Crc.run (8 * M) a ^^^ 0) ^^^ b = Crc.run (8 * (M + L)) a ^^^ b by rw [Nat.xor_zero, Nat.mul_add, Crc.run_add])
    rw [HJ.out] at C6
    rw [show ((M + L : Nat) : Int) = (M : Int) + (L : Int) by omega] at C7
    replace C5 : Gives w 20 #[.int .u32 a, .int .u32 0, .int .i64 M] (.int .u32 ((Crc.run (8 * M) a ^^^ 0 : Nat) : Int)) := C5
    clear C4 hrm
    generalize Crc.run (8 * M) a ^^^ 0 = x at *
    generalize Crc.run (8 * (M + L)) a ^^^ b = y at *
    go_enter Tryd.func9, Tryd.ntmps9
    go_wp2_with (go_at_call 10; refine (C0 _ (Ext.refl _)).mono ?_; rintro e w1 ⟨rfl, hE1, _⟩)
    rw [HK.out]
    refine (C1 _ hE1).mono ?_
    rintro e w2 ⟨rfl, hE2, _⟩
    go_wp2_with fail
    refine (C2 _ hE2).mono ?_
    rintro e w3 ⟨rfl, hE3, _⟩
    go_wp2_with fail
    refine (C3 _ hE3).mono ?_
    rintro e w4 ⟨rfl, hE4, _⟩
    go_wp2_with fail
    refine (C5 _ hE4).mono ?_
    rintro e w5 ⟨rfl, hE5, _⟩
    go_wp2_with fail
    refine (C6 _ hE5).mono ?_
    rintro e w6 ⟨rfl, hE6, _⟩
    go_wp2_with fail
    refine (C7 _ hE6).mono ?_
    rintro e w7 ⟨rfl, hE7, _⟩
    go_wp2
    go_ret
    exact ⟨rfl, hE7⟩
  · clear C4
    by_cases c1 : m < 0
    · go_enter Tryd.func9, Tryd.ntmps9
      go_wp2_with (go_at_call 10; refine (C0 _ (Ext.refl _)).mono ?_; rintro e w1 ⟨rfl, hE1, _⟩)
      rw [HK.out]
      refine (C1 _ hE1).mono ?_
      rintro e w2 ⟨rfl, hE2, _⟩
      go_wp2_with fail
      refine (C2 _ hE2).mono ?_
      rintro e w3 ⟨rfl, hE3, _⟩
      go_wp2_with fail
      refine (C3 _ hE3).mono ?_
      rintro e w4 ⟨rfl, hE4, _⟩
      go_wp2
      go_ret
      exact ⟨rfl, hE4⟩
    by_cases c2 : l < 0
    · go_enter Tryd.func9, Tryd.ntmps9
      go_wp2_with (go_at_call 10; refine (C0 _ (Ext.refl _)).mono ?_; rintro e w1 ⟨rfl, hE1, _⟩)
      rw [HK.out]
      refine (C1 _ hE1).mono ?_
      rintro e w2 ⟨rfl, hE2, _⟩
      go_wp2_with fail
      refine (C2 _ hE2).mono ?_
      rintro e w3 ⟨rfl, hE3, _⟩
      go_wp2_with fail
      refine (C3 _ hE3).mono ?_
      rintro e w4 ⟨rfl, hE4, _⟩
      go_wp2
      go_ret
      exact ⟨rfl, hE4⟩
    by_cases c3 : m > 1152921504606846976
    · go_enter Tryd.func9, Tryd.ntmps9
      go_wp2_with (go_at_call 10; refine (C0 _ (Ext.refl _)).mono ?_; rintro e w1 ⟨rfl, hE1, _⟩)
      rw [HK.out]
      refine (C1 _ hE1).mono ?_
      rintro e w2 ⟨rfl, hE2, _⟩
      go_wp2_with fail
      refine (C2 _ hE2).mono ?_
      rintro e w3 ⟨rfl, hE3, _⟩
      go_wp2_with fail
      refine (C3 _ hE3).mono ?_
      rintro e w4 ⟨rfl, hE4, _⟩
      go_wp2
      go_ret
      exact ⟨rfl, hE4⟩
    · have c4 : l > 1152921504606846976 := by omega
      go_enter Tryd.func9, Tryd.ntmps9
      go_wp2_with (go_at_call 10; refine (C0 _ (Ext.refl _)).mono ?_; rintro e w1 ⟨rfl, hE1, _⟩)
      rw [HK.out]
      refine (C1 _ hE1).mono ?_
      rintro e w2 ⟨rfl, hE2, _⟩
      go_wp2_with fail
      refine (C2 _ hE2).mono ?_
      rintro e w3 ⟨rfl, hE3, _⟩
      go_wp2_with fail
      refine (C3 _ hE3).mono ?_
      rintro e w4 ⟨rfl, hE4, _⟩
      go_wp2
      go_ret
      exact ⟨rfl, hE4⟩
end Go.Proofs.YtcoegdkkogoaiaaDoor
