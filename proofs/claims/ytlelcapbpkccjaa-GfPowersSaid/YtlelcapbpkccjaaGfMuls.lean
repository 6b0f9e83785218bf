/- The laws GfMuls, GfField. -/
import Derived.Test.YtlelcapbpkccjaaGfLaw
namespace Go.Proofs.Ytlelcapbpkccjaa
open Go.RowKit

theorem gfMuls_walk0 (a b : Int) (w : World) (hM : MulC w) (ha : (Lit.int .u8 a).wf = true) (hb : (Lit.int .u8 b).wf = true) :
    Calls Try.prog 3 #[.int .u8 a, .int .u8 b] w fun e w' => e = .returned (.bool true) ∧ Below w.heap.size w w' := by
  obtain ⟨a0, a1⟩ := bounds_u8 ha
  obtain ⟨b0, b1⟩ := bounds_u8 hb
  obtain ⟨a, rfl⟩ := Int.eq_ofNat_of_zero_le a0
  obtain ⟨b, rfl⟩ := Int.eq_ofNat_of_zero_le b0
  have ha' : a < 256 := by omega
  have hb' : b < 256 := by omega
  clear ha hb a0 a1 b0 b1
  have R1 := fun W => refMul_any a b W ha' hb'
  go_enter Try.func3, Try.ntmps3
  go_wp2_with fail
  refine (alive4_any hM (Ext.refl w)).mono ?_
  rintro e w1 ⟨rfl, hE1⟩
  go_wp2_with fail
  refine (hM a b w1 ha' hb' hE1).mono ?_
  rintro e w2 ⟨rfl, hE2⟩
  go_wp2_with fail
  refine (R1 w2).mono ?_
  rintro e w3 ⟨rfl, rfl⟩
  go_wp2
  go_ret
  exact ⟨rfl, hE1.trans hE2⟩

set_option maxHeartbeats 4000000 in
set_option maxRecDepth 100000 in
theorem gfField_walk0 (a b c : Int) (w : World) (hM : MulC w) (ha : (Lit.int .u8 a).wf = true) (hb : (Lit.int .u8 b).wf = true) (hc : (Lit.int .u8 c).wf = true) :
    Calls Try.prog 4 #[.int .u8 a, .int .u8 b, .int .u8 c] w fun e w' => e = .returned (.bool true) ∧ Below w.heap.size w w' := by
  obtain ⟨a0, a1⟩ := bounds_u8 ha
  obtain ⟨b0, b1⟩ := bounds_u8 hb
  obtain ⟨c0, c1⟩ := bounds_u8 hc
  obtain ⟨a, rfl⟩ := Int.eq_ofNat_of_zero_le a0
  obtain ⟨b, rfl⟩ := Int.eq_ofNat_of_zero_le b0
  obtain ⟨c, rfl⟩ := Int.eq_ofNat_of_zero_le c0
  have ha' : a < 256 := by omega
  have hb' : b < 256 := by omega
  have hc' : c < 256 := by omega
  clear ha hb hc a0 a1 b0 b1 c0 c1
  have hx : b ^^^ c < 256 := Nat.xor_lt_two_pow (n := 8) hb' hc'
  have M1 := fun W hE => hM a b W ha' hb' hE
  have M2 := fun W hE => hM b a W hb' ha' hE
  rw [Gf.mul_comm hb' ha'] at M2
  have M3 := fun W hE => hM (Gf.mul a b) c W (Gf.mul_lt ha' hb') hc' hE
  have M4 := fun W hE => hM b c W hb' hc' hE
  have M5 := fun W hE => hM a (Gf.mul b c) W ha' (Gf.mul_lt hb' hc') hE
  rw [← Gf.mul_assoc ha' hb' hc'] at M5
  have M6 := fun W hE => hM a (b ^^^ c) W ha' hx hE
  have M7 := fun W hE => hM a c W ha' hc' hE
  have M8 := fun W hE => hM a 1 W ha' (by decide) hE
  rw [Gf.mul_one ha'] at M8
  rw [Gf.mul_xor] at M6
  have hbc := u8_xor_nat b c hb' hc'
  have habc := u8_xor_nat (Gf.mul a b) (Gf.mul a c) (Gf.mul_lt ha' hb') (Gf.mul_lt ha' hc')
  have h0 : (((Gf.mul a b : Nat) : Int) == 0) = (((a : Int) == 0) || ((b : Int) == 0)) := by
    rw [Bool.eq_iff_iff]
    have hz := Gf.mul_eq_zero ha' hb'
    simp only [beq_iff_eq, Bool.or_eq_true]
    omega
  generalize Gf.mul (Gf.mul a b) c = abc at *
  generalize Gf.mul b c = bc at *
  generalize Gf.mul a c = ac at *
  generalize Gf.mul a b = ab at *
  generalize b ^^^ c = bxc at *
  generalize ab ^^^ ac = abac at *
  have H0 := hide h0
  clear h0
  go_enter Try.func4, Try.ntmps4
  go_wp2_with fail
  refine (alive4_any hM (Ext.refl w)).mono ?_
  rintro e w1 ⟨rfl, hE1⟩
  go_wp2_with fail
  refine (M1 w1 hE1).mono ?_
  rintro e w2 ⟨rfl, hE2⟩
  have k2 := hE1.trans hE2
  go_wp2_with fail
  refine (M2 w2 k2).mono ?_
  rintro e w3 ⟨rfl, hE3⟩
  have k3 := k2.trans hE3
  go_wp2_with fail
  refine (M1 w3 k3).mono ?_
  rintro e w4 ⟨rfl, hE4⟩
  have k4 := k3.trans hE4
  go_wp2_with fail
  refine (M3 w4 k4).mono ?_
  rintro e w5 ⟨rfl, hE5⟩
  have k5 := k4.trans hE5
  go_wp2_with fail
  refine (M4 w5 k5).mono ?_
  rintro e w6 ⟨rfl, hE6⟩
  have k6 := k5.trans hE6
  go_wp2_with fail
  refine (M5 w6 k6).mono ?_
  rintro e w7 ⟨rfl, hE7⟩
  have k7 := k6.trans hE7
  go_wp2_with fail
  refine (M6 w7 k7).mono ?_
  rintro e w8 ⟨rfl, hE8⟩
  have k8 := k7.trans hE8
  go_wp2_with fail
  refine (M1 w8 k8).mono ?_
  rintro e w9 ⟨rfl, hE9⟩
  have k9 := k8.trans hE9
  go_wp2_with fail
  refine (M7 w9 k9).mono ?_
  rintro e w10 ⟨rfl, hE10⟩
  have k10 := k9.trans hE10
  go_wp2_with fail
  refine (M8 w10 k10).mono ?_
  rintro e w11 ⟨rfl, hE11⟩
  have k11 := k10.trans hE11
  go_wp2_with fail
  refine (M1 w11 k11).mono ?_
  rintro e w12 ⟨rfl, hE12⟩
  have k12 := k11.trans hE12
  by_cases ha0 : a = 0
  · have q1 : ((a : Int) == 0) = true := by simp; omega
    have q2 : ((ab : Int) == 0) = true := by rw [H0.out, q1]; rfl
    clear ha0
    go_wp2
    go_ret
    exact ⟨rfl, k12⟩
  · have q1 : ((a : Int) == 0) = false := by simp; omega
    by_cases hb0 : b = 0
    · have q3 : ((b : Int) == 0) = true := by simp; omega
      have q2 : ((ab : Int) == 0) = true := by rw [H0.out, q1, q3]; rfl
      clear ha0 hb0
      go_wp2
      go_ret
      exact ⟨rfl, k12⟩
    · have q3 : ((b : Int) == 0) = false := by simp; omega
      have q2 : ((ab : Int) == 0) = false := by rw [H0.out, q1, q3]; rfl
      clear ha0 hb0
      go_wp2
      go_ret
      exact ⟨rfl, k12⟩
end Go.Proofs.Ytlelcapbpkccjaa
