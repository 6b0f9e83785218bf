/- The laws GfPowers, GfOrder. -/
import Derived.Test.YtlelcapbpkccjaaGfInverts
namespace Go.Proofs.Ytlelcapbpkccjaa
open Go.RowKit

set_option maxHeartbeats 4000000 in
set_option maxRecDepth 100000 in
theorem gfPowers_walk0 (a n m l : Int) (w : World) (hM : MulC w) (hP : PowC w) (ha : (Lit.int .u8 a).wf = true) (hn : (Lit.int .u16 n).wf = true) (hm : (Lit.int .u64 m).wf = true) (hl : (Lit.int .u64 l).wf = true) :
    Calls Try.prog 7 #[.int .u8 a, .int .u16 n, .int .u64 m, .int .u64 l] w fun e w' => e = .returned (.bool true) ∧ Below w.heap.size w w' := by
  obtain ⟨a0, a1⟩ := bounds_u8 ha
  obtain ⟨n0, n1⟩ := bounds_u16 hn
  obtain ⟨m0, m1⟩ := bounds_u64 hm
  obtain ⟨l0, l1⟩ := bounds_u64 hl
  obtain ⟨a, rfl⟩ := Int.eq_ofNat_of_zero_le a0
  obtain ⟨n, rfl⟩ := Int.eq_ofNat_of_zero_le n0
  obtain ⟨m, rfl⟩ := Int.eq_ofNat_of_zero_le m0
  obtain ⟨l, rfl⟩ := Int.eq_ofNat_of_zero_le l0
  have ha' : a < 256 := by omega
  obtain ⟨k, hk⟩ : ∃ k, k = n % 600 := ⟨_, rfl⟩
  have ek : (n : Int) % 600 = (k : Int) := by omega
  have hk6 : k < 600 := by omega
  have hkk : IntKind.u64.wrap (k : Int) = (k : Int) := by rw [IntKind.wrap_u64]; omega
  clear ha hn hm hl hk
  have P1 := fun W hE => hP a k W ha' (by omega) hE
  have P2 := fun W => refPow_any a k W ha' (by omega)
  have P3 := fun W hE => hP a 255 W ha' (by decide) hE
  have P4 := fun W hE => hP a 18446744073709551615 W ha' (by decide) hE
  go_enter Try.func7, Try.ntmps7
  go_wp2_with fail
  refine (alive4_any hM (Ext.refl w)).mono ?_
  rintro e w1 ⟨rfl, hE1⟩
  go_wp2_with fail
  refine (P1 w1 hE1).mono ?_
  rintro e w2 ⟨rfl, hE2⟩
  have k2 := hE1.trans hE2
  go_wp2_with fail
  refine (P2 w2).mono ?_
  rintro e w3 ⟨rfl, rfl⟩
  clear P1 P2 hE1 hE2
  generalize Gf.pow a k = x at *
  by_cases hz : a = 0
  · have q0 : ((a : Int) != 0) = false := by simp; omega
    clear hz P3 P4
    by_cases hm : 9223372036854775808 ≤ m
    · have hm' : (9223372036854775808 : Int) ≤ (m : Int) := by omega
      go_wp2
      go_ret
      exact ⟨rfl, k2⟩
    · have hm' : ¬ ((9223372036854775808 : Int) ≤ (m : Int)) := by omega
      by_cases hl : 9223372036854775808 ≤ l
      · have hl' : (9223372036854775808 : Int) ≤ (l : Int) := by omega
        go_wp2
        go_ret
        exact ⟨rfl, k2⟩
      · have hl' : ¬ ((9223372036854775808 : Int) ≤ (l : Int)) := by omega
        have Q1 := fun W hE => hP a m W ha' (by omega) hE
        have Q2 := fun W hE => hP a l W ha' (by omega) hE
        have Q3 := fun W hE => hM (Gf.pow a m) (Gf.pow a l) W (Gf.pow_lt ha' m) (Gf.pow_lt ha' l) hE
        have Q4 := fun W hE => hP a (m + l) W ha' (by omega) hE
        rw [Gf.pow_add ha'] at Q4
        have hw : IntKind.u64.wrap ((m : Int) + (l : Int)) = ((m + l : Nat) : Int) := by rw [IntKind.wrap_u64]; omega
        generalize Gf.mul (Gf.pow a m) (Gf.pow a l) = y at *
        generalize Gf.pow a m = y1 at *
        generalize Gf.pow a l = y2 at *
        generalize m + l = ml at *
        clear hm hl
        go_wp2_with fail
        refine (Q1 _ k2).mono ?_
        rintro e w6 ⟨rfl, hE6⟩
        have k6 := k2.trans hE6
        go_wp2_with fail
        refine (Q2 w6 k6).mono ?_
        rintro e w7 ⟨rfl, hE7⟩
        have k7 := k6.trans hE7
        go_wp2_with fail
        refine (Q3 w7 k7).mono ?_
        rintro e w8 ⟨rfl, hE8⟩
        have k8 := k7.trans hE8
        go_wp2_with fail
        refine (Q4 w8 k8).mono ?_
        rintro e w9 ⟨rfl, hE9⟩
        go_wp2
        go_ret
        exact ⟨rfl, k8.trans hE9⟩
  · have q0 : ((a : Int) != 0) = true := by simp; omega
    rw [Gf.pow_255 ha' hz] at P3
    rw [Gf.pow_most ha' hz] at P4
    clear hz
    go_wp2_with fail
    refine (P3 w2 k2).mono ?_
    rintro e w3 ⟨rfl, hE3⟩
    have k3 := k2.trans hE3
    go_wp2_with fail
    refine (P4 w3 k3).mono ?_
    rintro e w4 ⟨rfl, hE4⟩
    have k4 := k3.trans hE4
    clear P3 P4 hE3 hE4
    by_cases hm : 9223372036854775808 ≤ m
    · have hm' : (9223372036854775808 : Int) ≤ (m : Int) := by omega
      go_wp2
      go_ret
      exact ⟨rfl, k4⟩
    · have hm' : ¬ ((9223372036854775808 : Int) ≤ (m : Int)) := by omega
      by_cases hl : 9223372036854775808 ≤ l
      · have hl' : (9223372036854775808 : Int) ≤ (l : Int) := by omega
        go_wp2
        go_ret
        exact ⟨rfl, k4⟩
      · have hl' : ¬ ((9223372036854775808 : Int) ≤ (l : Int)) := by omega
        have Q1 := fun W hE => hP a m W ha' (by omega) hE
        have Q2 := fun W hE => hP a l W ha' (by omega) hE
        have Q3 := fun W hE => hM (Gf.pow a m) (Gf.pow a l) W (Gf.pow_lt ha' m) (Gf.pow_lt ha' l) hE
        have Q4 := fun W hE => hP a (m + l) W ha' (by omega) hE
        rw [Gf.pow_add ha'] at Q4
        have hw : IntKind.u64.wrap ((m : Int) + (l : Int)) = ((m + l : Nat) : Int) := by rw [IntKind.wrap_u64]; omega
        generalize Gf.mul (Gf.pow a m) (Gf.pow a l) = y at *
        generalize Gf.pow a m = y1 at *
        generalize Gf.pow a l = y2 at *
        generalize m + l = ml at *
        clear hm hl
        go_wp2_with fail
        refine (Q1 _ k4).mono ?_
        rintro e w6 ⟨rfl, hE6⟩
        have k6 := k4.trans hE6
        go_wp2_with fail
        refine (Q2 w6 k6).mono ?_
        rintro e w7 ⟨rfl, hE7⟩
        have k7 := k6.trans hE7
        go_wp2_with fail
        refine (Q3 w7 k7).mono ?_
        rintro e w8 ⟨rfl, hE8⟩
        have k8 := k7.trans hE8
        go_wp2_with fail
        refine (Q4 w8 k8).mono ?_
        rintro e w9 ⟨rfl, hE9⟩
        go_wp2
        go_ret
        exact ⟨rfl, k8.trans hE9⟩

set_option maxHeartbeats 2000000 in
set_option maxRecDepth 100000 in
theorem gfOrder_walk0 (n m : Int) (w : World) (hM : MulC w) (hP : PowC w) (hn : (Lit.int .u8 n).wf = true) (hm : (Lit.int .u8 m).wf = true) :
    Calls Try.prog 8 #[.int .u8 n, .int .u8 m] w fun e w' => e = .returned (.bool true) ∧ Below w.heap.size w w' := by
  obtain ⟨n0, n1⟩ := bounds_u8 hn
  obtain ⟨m0, m1⟩ := bounds_u8 hm
  obtain ⟨n, rfl⟩ := Int.eq_ofNat_of_zero_le n0
  obtain ⟨m, rfl⟩ := Int.eq_ofNat_of_zero_le m0
  clear hn hm
  have P1 := fun W hE => hP 2 n W (by decide) (by omega) hE
  have P2 := fun W hE => hP 2 m W (by decide) (by omega) hE
  go_enter Try.func8, Try.ntmps8
  go_wp2_with fail
  refine (alive4_any hM (Ext.refl w)).mono ?_
  rintro e w1 ⟨rfl, hE1⟩
  by_cases hn5 : n = 255
  · have q1 : ((n : Int) == 255) = true := by simp; omega
    clear hn5
    go_wp2
    go_ret
    exact ⟨rfl, hE1⟩
  · have q1 : ((n : Int) == 255) = false := by simp; omega
    by_cases hm5 : m = 255
    · have q2 : ((m : Int) == 255) = true := by simp; omega
      clear hm5 hn5
      go_wp2
      go_ret
      exact ⟨rfl, hE1⟩
    · have q2 : ((m : Int) == 255) = false := by simp; omega
      have hinj : (((Gf.pow 2 n : Nat) : Int) == ((Gf.pow 2 m : Nat) : Int)) = ((n : Int) == (m : Int)) := by
        rw [Bool.eq_iff_iff]
        simp only [beq_iff_eq]
        constructor
        · intro h
          have := Gf.pow2_inj (n := n) (m := m) (by omega) (by omega) (by omega)
          omega
        · intro h
          obtain rfl : n = m := by omega
          rfl
      have HI := hide hinj
      clear hm5 hn5 hinj
      generalize Gf.pow 2 n = x at *
      generalize Gf.pow 2 m = y at *
      go_wp2_with fail
      refine (P1 w1 hE1).mono ?_
      rintro e w2 ⟨rfl, hE2⟩
      have k2 := hE1.trans hE2
      go_wp2_with fail
      refine (P2 w2 k2).mono ?_
      rintro e w3 ⟨rfl, hE3⟩
      go_wp2
      go_ret
      exact ⟨ret_bool (by rw [HI.out]; simp), k2.trans hE3⟩
end Go.Proofs.Ytlelcapbpkccjaa
