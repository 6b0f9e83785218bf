/- The laws GfInverts, GfBack. -/
import Derived.Test.YtlelcapbpkccjaaGfLaw
import Derived.Test.YtlelcapbpkccjaaGfRefInv
import Derived.Test.YtlelcapbpkccjaaGfRefPow
namespace Go.Proofs.Ytlelcapbpkccjaa
open Go.RowKit

/-- From world w on, the program's Inv, Div, Log tell what the document asks. -/
def InvC (w : World) : Prop := ∀ (a : Nat) (W : World), a < 256 → Ext w W → Calls Try.prog 15 #[.int .u8 a] W fun e W' => e = .returned (.tuple #[.int .u8 (((Gf.invR a).1 : Nat) : Int), .int .i64 (Gf.invR a).2]) ∧ Ext W W'
def DivC (w : World) : Prop := ∀ (a b : Nat) (W : World), a < 256 → b < 256 → Ext w W → Calls Try.prog 17 #[.int .u8 a, .int .u8 b] W fun e W' => e = .returned (.tuple #[.int .u8 (((Gf.divR a b).1 : Nat) : Int), .int .i64 (Gf.divR a b).2]) ∧ Ext W W'
def LogC (w : World) : Prop := ∀ (a : Nat) (W : World), a < 256 → Ext w W → Calls Try.prog 19 #[.int .u8 a] W fun e W' => e = .returned (.tuple #[.int .i64 (((Gf.logR a).1 : Nat) : Int), .int .i64 (Gf.logR a).2]) ∧ Ext W W'
def PowC (w : World) : Prop := ∀ (a n : Nat) (W : World), a < 256 → n < 18446744073709551616 → Ext w W → Calls Try.prog 21 #[.int .u8 a, .int .u64 n] W fun e W' => e = .returned (.int .u8 (Gf.pow a n : Nat)) ∧ Ext W W'

set_option maxHeartbeats 4000000 in
set_option maxRecDepth 100000 in
theorem gfInverts_walk0 (a b : Int) (w : World) (hM : MulC w) (hI : InvC w) (hD : DivC w) (hL : LogC w) (ha : (Lit.int .u8 a).wf = true) (hb : (Lit.int .u8 b).wf = true) :
    Calls Try.prog 5 #[.int .u8 a, .int .u8 b] w fun e w' => e = .returned (.bool true) ∧ Below w.heap.size w w' := by
  obtain ⟨a0, a1⟩ := bounds_u8 ha
  obtain ⟨b0, b1⟩ := bounds_u8 hb
  obtain ⟨a, rfl⟩ := Int.eq_ofNat_of_zero_le a0
  obtain ⟨b, rfl⟩ := Int.eq_ofNat_of_zero_le b0
  have ha' : a < 256 := by omega
  have hb' : b < 256 := by omega
  clear ha hb a0 a1 b0 b1
  have I1 := fun W hE => hI a W ha' hE
  have I2 := fun W => refInv_any a W ha'
  have D1 := fun W hE => hD a b W ha' hb' hE
  have D2 := fun W => refDiv_any a b W ha' hb'
  have L1 := fun W hE => hL a W ha' hE
  have L2 := fun W => refLog_any a W ha'
  generalize Gf.invR a = ri at *
  generalize Gf.divR a b = rd at *
  generalize Gf.logR a = rl at *
  obtain ⟨i1, i2⟩ := ri
  obtain ⟨d1, d2⟩ := rd
  obtain ⟨l1, l2⟩ := rl
  dsimp only at *
  go_enter Try.func5, Try.ntmps5
  go_wp2_with fail
  refine (alive4_any hM (Ext.refl w)).mono ?_
  rintro e w1 ⟨rfl, hE1⟩
  go_wp2_with fail
  refine (I1 w1 hE1).mono ?_
  rintro e w2 ⟨rfl, hE2⟩
  have k2 := hE1.trans hE2
  go_wp2_with fail
  refine (I2 w2).mono ?_
  rintro e w3 ⟨rfl, rfl⟩
  go_wp2_with fail
  refine (D1 w2 k2).mono ?_
  rintro e w3 ⟨rfl, hE3⟩
  have k3 := k2.trans hE3
  go_wp2_with fail
  refine (D2 w3).mono ?_
  rintro e w4 ⟨rfl, rfl⟩
  go_wp2_with fail
  refine (L1 w3 k3).mono ?_
  rintro e w4 ⟨rfl, hE4⟩
  have k4 := k3.trans hE4
  go_wp2_with fail
  refine (L2 w4).mono ?_
  rintro e w5 ⟨rfl, rfl⟩
  go_wp2
  go_ret
  exact ⟨rfl, k4⟩

set_option maxHeartbeats 4000000 in
set_option maxRecDepth 100000 in
theorem gfBack_walk0 (a b : Int) (w : World) (hM : MulC w) (hD : DivC w) (hL : LogC w) (hP : PowC w) (ha : (Lit.int .u8 a).wf = true) (hb : (Lit.int .u8 b).wf = true) :
    Calls Try.prog 6 #[.int .u8 a, .int .u8 b] w fun e w' => e = .returned (.bool true) ∧ Below w.heap.size w w' := by
  obtain ⟨a0, a1⟩ := bounds_u8 ha
  obtain ⟨b0, b1⟩ := bounds_u8 hb
  obtain ⟨a, rfl⟩ := Int.eq_ofNat_of_zero_le a0
  obtain ⟨b, rfl⟩ := Int.eq_ofNat_of_zero_le b0
  have ha' : a < 256 := by omega
  have hb' : b < 256 := by omega
  clear ha hb a0 a1 b0 b1
  have hab := Gf.mul_lt ha' hb'
  have M1 := fun W hE => hM a b W ha' hb' hE
  have D1 := fun W hE => hD (Gf.mul a b) b W hab hb' hE
  have L1 := fun W hE => hL a W ha' hE
  have HD : b = 0 ∧ Gf.divR (Gf.mul a b) b = (0, 13) ∨ b ≠ 0 ∧ Gf.divR (Gf.mul a b) b = (a, 0) := by
    unfold Gf.divR
    by_cases h : b = 0
    · exact .inl ⟨h, by rw [if_pos h]⟩
    · refine .inr ⟨h, by rw [if_neg h, ← Gf.div_only hab hb' ha' h (Gf.mul_comm hb' ha')]⟩
  have HL : a = 0 ∧ Gf.logR a = (0, 13) ∨ a ≠ 0 ∧ ∃ n, n < 255 ∧ Gf.pow 2 n = a ∧ Gf.logR a = (n, 0) := by
    unfold Gf.logR
    by_cases h : a = 0
    · exact .inl ⟨h, by rw [if_pos h]⟩
    · obtain ⟨h1, h2⟩ := Gf.pow_log ha' h
      exact .inr ⟨h, _, h1, h2, by rw [if_neg h]⟩
  generalize Gf.divR (Gf.mul a b) b = rd at *
  generalize Gf.logR a = rl at *
  generalize Gf.mul a b = ab at *
  obtain ⟨d1, d2⟩ := rd
  obtain ⟨l1, l2⟩ := rl
  dsimp only at *
  have P1 := fun W hE => fun (n : Nat) (hn : n < 255) => hP 2 n W (by decide) (by omega) hE
  have HD' := hide HD
  have HL' := hide HL
  clear HD HL
  go_enter Try.func6, Try.ntmps6
  go_wp2_with fail
  refine (alive4_any hM (Ext.refl w)).mono ?_
  rintro e w1 ⟨rfl, hE1⟩
  go_wp2_with fail
  refine (M1 w1 hE1).mono ?_
  rintro e w2 ⟨rfl, hE2⟩
  have k2 := hE1.trans hE2
  go_wp2_with fail
  refine (D1 w2 k2).mono ?_
  rintro e w3 ⟨rfl, hE3⟩
  have k3 := k2.trans hE3
  go_wp2_with fail
  refine (L1 w3 k3).mono ?_
  rintro e w4 ⟨rfl, hE4⟩
  have k4 := k3.trans hE4
  clear M1 D1 L1 hE1 hE2 hE3 hE4 k2 k3
  rcases HL'.out with ⟨ha0, hl⟩ | ⟨ha0, n, hn, hpn, hl⟩
  · obtain ⟨rfl, rfl⟩ := Prod.mk.inj hl
    have q1 : ((a : Int) == 0) = true := by simp; omega
    clear ha0 hl
    rcases HD'.out with ⟨hb0, hd⟩ | ⟨hb0, hd⟩
    · obtain ⟨rfl, rfl⟩ := Prod.mk.inj hd
      have q2 : ((b : Int) == 0) = true := by simp; omega
      have q3 : ((b : Int) != 0) = false := by simp; omega
      clear hb0 hd
      go_wp2
      go_ret
      exact ⟨rfl, k4⟩
    · obtain ⟨rfl, rfl⟩ := Prod.mk.inj hd
      have q2 : ((b : Int) == 0) = false := by simp; omega
      have q3 : ((b : Int) != 0) = true := by simp; omega
      clear hb0 hd
      go_wp2
      go_ret
      exact ⟨rfl, k4⟩
  · obtain ⟨rfl, rfl⟩ := Prod.mk.inj hl
    have q1 : ((a : Int) == 0) = false := by simp; omega
    have q0 : ((a : Int) != 0) = true := by simp; omega
    have P2 := P1 w4 k4 l1 hn
    rw [hpn] at P2
    have hwn : IntKind.u64.wrap (l1 : Int) = (l1 : Int) := by rw [IntKind.wrap_u64]; omega
    have n0 : (0 : Int) ≤ (l1 : Int) := by omega
    have n1 : (l1 : Int) < 255 := by omega
    clear ha0 hl P1 hpn
    rcases HD'.out with ⟨hb0, hd⟩ | ⟨hb0, hd⟩
    · obtain ⟨rfl, rfl⟩ := Prod.mk.inj hd
      have q2 : ((b : Int) == 0) = true := by simp; omega
      have q3 : ((b : Int) != 0) = false := by simp; omega
      clear hb0 hd
      go_wp2_with fail
      refine P2.mono ?_
      rintro e w5 ⟨rfl, hE5⟩
      go_wp2
      go_ret
      exact ⟨rfl, k4.trans hE5⟩
    · obtain ⟨rfl, rfl⟩ := Prod.mk.inj hd
      have q2 : ((b : Int) == 0) = false := by simp; omega
      have q3 : ((b : Int) != 0) = true := by simp; omega
      clear hb0 hd
      go_wp2_with fail
      refine P2.mono ?_
      rintro e w5 ⟨rfl, hE5⟩
      go_wp2
      go_ret
      exact ⟨rfl, k4.trans hE5⟩
end Go.Proofs.Ytlelcapbpkccjaa
