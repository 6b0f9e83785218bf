/- The law LensRare. -/
import Derived.Test.YtijelijooecoeaaLenLaw2
namespace Go.Proofs.Ytijelijooecoeaa
open Go.RowKit Len

theorem tmod_nat (a b : Nat) : ((a : Int)).tmod (b : Int) = ((a % b : Nat) : Int) := by simp [Int.tmod_eq_emod_of_nonneg]

set_option maxHeartbeats 4000000 in
set_option maxRecDepth 100000 in
theorem lensRare_walk0 (limit i k : Int) (A : Option Addr) (n c : Nat) (often : List Nat) (w : World) (hL : LensC w) (hl0 : -9223372036854775808 ≤ limit) (hl1 : limit ≤ 9223372036854775807) (hi0 : 0 ≤ i) (hi1 : i ≤ 255) (hk0 : 0 ≤ k) (hk1 : k ≤ 255) (hn : n ≤ c) (hc : c ≤ maxLen) (h : U32At w w.heap.size A n often) :
    Calls Try.prog 6 #[.slice A n c, .int .i64 limit, .int .u8 i, .int .u8 k] w fun e w' => e = .returned (.bool true) ∧ Below w.heap.size w w' := by
  have C1 := fun W hE => hL often limit A n c W hE hn hc (h.ext hE) hl0 hl1
  obtain ⟨i, rfl⟩ := Int.eq_ofNat_of_zero_le hi0
  obtain ⟨k, rfl⟩ := Int.eq_ofNat_of_zero_le hk0
  have hlen := h.1
  rcases h.2.2 with h0 | ⟨b1, o1, rfl, hB1, hc1⟩
  · subst h0
    clear h hlen C1
    go_enter Try.func6, Try.ntmps6
    go_wp2_with fail
    refine (alive7_any hL (Ext.refl w)).mono ?_
    rintro e w1 ⟨rfl, hE1⟩
    go_wp2
    go_ret
    exact ⟨rfl, hE1⟩
  by_cases hn0 : n = 0
  · subst hn0
    clear h hlen C1 hc1
    go_enter Try.func6, Try.ntmps6
    go_wp2_with fail
    refine (alive7_any hL (Ext.refl w)).mono ?_
    rintro e w1 ⟨rfl, hE1⟩
    go_wp2
    go_ret
    exact ⟨rfl, hE1⟩
  have hnz : ((n : Int) == 0) = false := by simp; omega
  have ta := tmod_nat i n
  have tb := tmod_nat k n
  have han : i % n < n := Nat.mod_lt _ (by omega)
  have hbn : k % n < n := Nat.mod_lt _ (by omega)
  have ka := hc1 _ han
  have kb := hc1 _ hbn
  have o32a := h.2.1 (i % n)
  have o32b := h.2.1 (k % n)
  have HRare := hide (fun (L : Nat) (hL : 1 ≤ L) (hL15 : L ≤ 15) (hu : (usedTo often often.length).length ≤ 2 ^ L) (a0 : often.getD (i % n) 0 ≠ 0) (b0 : often.getD (k % n) 0 ≠ 0) (hab : often.getD (i % n) 0 < often.getD (k % n) 0 ∨ often.getD (i % n) 0 = often.getD (k % n) 0 ∧ i % n < k % n) =>
    show (((lensL often L).getD (k % n) 0).toNat : Int) ≤ ((lensL often L).getD (i % n) 0).toNat by
      rw [lensL_at (by omega) hL hL15 hu, lensL_at (by omega) hL hL15 hu]
      have := lenN_rare (by omega) (by omega) a0 b0 hL hu hab
      omega)
  clear hc1
  generalize often.getD (i % n) 0 = oa at *
  generalize often.getD (k % n) 0 = ob at *
  generalize i % n = a at *
  generalize k % n = b at *
  go_enter Try.func6, Try.ntmps6
  go_wp2_with fail
  refine (alive7_any hL (Ext.refl w)).mono ?_
  rintro e w1 ⟨rfl, hE1⟩
  by_cases hr : (lensE often limit).2 = 0
  · obtain ⟨h300, L, rfl, hL1, hL15, hu, hEq⟩ := lensE_ok hr
    rw [hEq] at C1
    have hll : (lensL often L).length = n := by rw [lensL_len]; exact hlen
    have HRa := hide (HRare.out L hL1 hL15 hu)
    generalize lensL often L = la at *
    clear hr hEq h300 hlen h hu
    go_wp2_with fail
    refine (C1 _ hE1).mono ?_
    rintro e w2 ⟨v2, rfl, hO2, hE2⟩
    have hF2 := hE1.trans hE2
    dsimp only at hO2
    obtain ⟨A2, c2, rfl, _, _, hB2⟩ := hO2.form
    rw [hll] at hB2 ⊢
    rcases hB2.2 with h0 | ⟨b2, o2, rfl, hb2, hc2⟩
    · omega
    have ja := hc2 a han
    have jb := hc2 b hbn
    have hbl : ((la.getD b 0).toNat : Int) ≤ ((la.getD a 0).toNat : Int) ∨ ¬ (((la.getD b 0).toNat : Int) ≤ ((la.getD a 0).toNat : Int)) := Classical.em _
    clear hB2 hO2 hc2 hll C1
    generalize (la.getD a 0).toNat = ya at *
    generalize (la.getD b 0).toNat = yb at *
    go_wp2_with fail
    go_quiet (fail)
    have hEq : Ext w2 (w2.drewN nq) := (Ext.refl w2).drewN nq
    generalize w2.drewN nq = w3 at hEq ⊢
    have hF3 := hF2.trans hEq
    have ka3 := (hF3.cell hB1).trans ka
    have kb3 := (hF3.cell hB1).trans kb
    have ja3 := (hEq.cell hb2).trans ja
    have jb3 := (hEq.cell hb2).trans jb
    have haI : (a : Int) < (n : Int) := by omega
    have hbI : (b : Int) < (n : Int) := by omega
    clear ka kb ja jb
    by_cases a0 : oa = 0
    · have hz : ((oa : Int) == 0) = true := by simp; omega
      have HQ := hide a0
      clear a0
      go_wp2
      go_ret
      exact ⟨rfl, hF3⟩
    have hz : ((oa : Int) == 0) = false := by simp; omega
    by_cases b0 : ob = 0
    · have hzb : ((ob : Int) == 0) = true := by simp; omega
      have HQ := hide b0
      clear b0
      go_wp2
      go_ret
      exact ⟨rfl, hF3⟩
    have hzb : ((ob : Int) == 0) = false := by simp; omega
    have HR2 := hide (HRa.out a0 b0)
    have HA0 := hide a0
    have HB0 := hide b0
    clear a0 b0
    by_cases hab : oa < ob
    · have hd : decide ((oa : Int) < (ob : Int)) = true := decide_eq_true (by omega)
      have hle := HR2.out (.inl hab)
      clear hbl
      go_wp2_with fail
      go_quiet (fail)
      have hEq4 : Ext w3 (w3.drewN nq) := (Ext.refl w3).drewN nq
      generalize w3.drewN nq = w4 at hEq4 ⊢
      have ja4 := (hEq4.cell (Nat.lt_of_lt_of_le hb2 hEq.le)).trans ja3
      have jb4 := (hEq4.cell (Nat.lt_of_lt_of_le hb2 hEq.le)).trans jb3
      go_wp2_with fail
      go_quiet (fail)
      go_wp2
      go_ret
      exact ⟨rfl, (hF3.trans hEq4).drewN _⟩
    have hd : decide ((oa : Int) < (ob : Int)) = false := decide_eq_false (by omega)
    by_cases hab2 : oa = ob
    · have hq : ((oa : Int) == (ob : Int)) = true := by simp; omega
      by_cases hlt : a < b
      · have hd2 : decide ((a : Int) < (b : Int)) = true := decide_eq_true (by omega)
        have hle := HR2.out (.inr ⟨hab2, hlt⟩)
        have HQ := hide hab2
        clear hbl hab2
        go_wp2_with fail
        go_quiet (fail)
        have hEq4 : Ext w3 (w3.drewN nq) := (Ext.refl w3).drewN nq
        generalize w3.drewN nq = w4 at hEq4 ⊢
        have ja4 := (hEq4.cell (Nat.lt_of_lt_of_le hb2 hEq.le)).trans ja3
        have jb4 := (hEq4.cell (Nat.lt_of_lt_of_le hb2 hEq.le)).trans jb3
        go_wp2_with fail
        go_quiet (fail)
        go_wp2
        go_ret
        exact ⟨rfl, (hF3.trans hEq4).drewN _⟩
      · have hd2 : decide ((a : Int) < (b : Int)) = false := decide_eq_false (by omega)
        have HQ := hide hab2
        clear hbl hab2
        go_wp2_with fail
        go_quiet (fail)
        go_wp2
        go_ret
        exact ⟨rfl, hF3.drewN _⟩
    · have hq : ((oa : Int) == (ob : Int)) = false := by simp; omega
      clear hbl
      go_wp2_with fail
      go_quiet (fail)
      go_wp2
      go_ret
      exact ⟨rfl, hF3.drewN _⟩
  · have hne : ((lensE often limit).2 != 0) = true := by simpa using hr
    generalize lensE often limit = r at *
    obtain ⟨r1, r2⟩ := r
    dsimp only at hr hne C1
    clear h hlen
    go_wp2_with fail
    refine (C1 _ hE1).mono ?_
    rintro e w2 ⟨v2, rfl, hO2, hE2⟩
    go_wp2
    go_ret
    exact ⟨rfl, hE1.trans hE2⟩
end Go.Proofs.Ytijelijooecoeaa
