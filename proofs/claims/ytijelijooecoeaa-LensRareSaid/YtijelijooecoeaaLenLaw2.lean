/- The laws LensFinds, LensWeighs, LensMore, LensRare. -/
import Derived.Test.YtijelijooecoeaaLenLaw
namespace Go.Proofs.Ytijelijooecoeaa
open Go.RowKit Len

set_option maxHeartbeats 2000000 in
set_option maxRecDepth 100000 in
theorem lensFinds_walk0 (limit : Int) (A : Option Addr) (n c : Nat) (often : List Nat) (w : World) (hL : LensC w) (hF : RefLensC w) (hl0 : -9223372036854775808 ≤ limit) (hl1 : limit ≤ 9223372036854775807) (hn : n ≤ c) (hc : c ≤ maxLen) (h : U32At w w.heap.size A n often) :
    Calls Try.prog 3 #[.slice A n c, .int .i64 limit] w fun e w' => e = .returned (.bool true) ∧ Below w.heap.size w w' := by
  have C1 := fun W hE => hL often limit A n c W hE hn hc (h.ext hE) hl0 hl1
  have C2 := fun W hE => hF often limit A n c W hE hn (h.ext hE) hl0 hl1
  generalize lensE often limit = r at *
  obtain ⟨r1, r2⟩ := r
  go_enter Try.func3, Try.ntmps3
  go_wp2_with fail
  refine (alive7_any hL (Ext.refl w)).mono ?_
  rintro e w1 ⟨rfl, hE1⟩
  by_cases h400 : (400 : Int) < (n : Int)
  · go_wp2
    go_ret
    exact ⟨rfl, hE1⟩
  · go_wp2_with fail
    refine (C1 _ hE1).mono ?_
    rintro e w2 ⟨v2, rfl, hO2, hE2⟩
    have hF2 := hE1.trans hE2
    go_wp2_with fail
    refine (C2 _ hF2).mono ?_
    rintro e w3 ⟨v3, rfl, hO3, hE3⟩
    have hF3 := hF2.trans hE3
    dsimp only at hO2 hO3
    obtain ⟨A2, c2, rfl, _, _, hB2⟩ := hO2.form
    obtain ⟨A3, c3, rfl, _, _, hB3⟩ := hO3.form
    have S := same_any A2 A3 r1.length r1.length c2 c3 r1 r1 w3 (hE3.bytes hB2) hB3
    rw [sameB_true rfl] at S
    go_wp2_with fail
    refine S.mono ?_
    rintro e w4 ⟨rfl, hE4⟩
    go_wp2
    go_ret
    exact ⟨rfl, hF3.trans hE4⟩

set_option maxHeartbeats 2000000 in
set_option maxRecDepth 100000 in
theorem lensWeighs_walk0 (A1 A2 : Option Addr) (n1 c1 n2 c2 : Nat) (often : List Nat) (l : List UInt8) (w : World) (hL : LensC w) (hK : KraftC w) (hC : CostC w) (hn1 : n1 ≤ c1) (hc1 : c1 ≤ maxLen) (hn2 : n2 ≤ c2) (hc2 : c2 ≤ maxLen) (h1 : U32At w w.heap.size A1 n1 often) (h2 : Bytes w w.heap.size A2 n2 l) :
    Calls Try.prog 4 #[.slice A1 n1 c1, .slice A2 n2 c2] w fun e w' => e = .returned (.bool true) ∧ Below w.heap.size w w' := by
  have K1 := fun W (hE : Ext w W) => hK l A2 n2 c2 W hE hn2 hc2 ((h2.below hE (Nat.le_refl _)).mono hE.le)
  have K2 := fun W (hE : Ext w W) => refKraft_any A2 n2 c2 l W ((h2.below hE (Nat.le_refl _)).mono hE.le)
  have T1 := fun W (hE : Ext w W) => hC often l A1 A2 n1 c1 n2 c2 W hE hn1 hn2 hc1 hc2 (h1.ext hE) ((h2.below hE (Nat.le_refl _)).mono hE.le)
  have T2 := fun W (hE : Ext w W) => refCost_any A1 A2 n1 c1 n2 c2 often l W (h1.ext hE) ((h2.below hE (Nat.le_refl _)).mono hE.le)
  unfold TellsI at K1 K2 T1 T2
  generalize kraftE l = k at *
  generalize costE often l = t at *
  obtain ⟨k1, k2⟩ := k
  obtain ⟨t1, t2⟩ := t
  dsimp only at K1 K2 T1 T2
  clear h1 h2
  go_enter Try.func4, Try.ntmps4
  go_wp2_with fail
  refine (alive7_any hL (Ext.refl w)).mono ?_
  rintro e w1 ⟨rfl, hE1⟩
  by_cases h400 : (400 : Int) < (n1 : Int)
  · go_wp2
    go_ret
    exact ⟨rfl, hE1⟩
  by_cases h401 : (400 : Int) < (n2 : Int)
  · go_wp2
    go_ret
    exact ⟨rfl, hE1⟩
  go_wp2_with fail
  refine (K1 _ hE1).mono ?_
  rintro e w2 ⟨rfl, hE2⟩
  have hF2 := hE1.trans hE2
  go_wp2_with fail
  refine (K2 _ hF2).mono ?_
  rintro e w3 ⟨rfl, hE3⟩
  have hF3 := hF2.trans hE3
  go_wp2_with fail
  refine (T1 _ hF3).mono ?_
  rintro e w4 ⟨rfl, hE4⟩
  have hF4 := hF3.trans hE4
  go_wp2_with fail
  refine (T2 _ hF4).mono ?_
  rintro e w5 ⟨rfl, hE5⟩
  go_wp2
  go_ret
  exact ⟨rfl, hF4.trans hE5⟩

theorem costOf_lens {often : List Nat} {L : Nat} (hL : 1 ≤ L) (hL15 : L ≤ 15) (hn : (usedTo often often.length).length ≤ 2 ^ L) : costOf often (lensL often L) (lensL often L).length = sumN often.length fun q => often.getD q 0 * lenN often L q := by
  unfold costOf
  rw [lensL_len]
  exact sumN_congr fun q hq => by rw [lensL_at hq hL hL15 hn]
/-- When lengths are told. -/
theorem lensE_ok {often : List Nat} {limit : Int} (h : (lensE often limit).2 = 0) : often.length ≤ 300 ∧ ∃ L : Nat, limit = L ∧ 1 ≤ L ∧ L ≤ 15 ∧ (usedTo often often.length).length ≤ 2 ^ L ∧ lensE often limit = (lensL often L, 0) := by
  unfold lensE at h ⊢
  by_cases h1 : 300 < often.length ∨ limit < 1 ∨ 15 < limit
  · rw [if_pos h1] at h
    cases h
  · rw [if_neg h1] at h ⊢
    obtain ⟨L, rfl⟩ := Int.eq_ofNat_of_zero_le (show 0 ≤ limit by omega)
    by_cases h2 : 2 ^ (L : Int).toNat < (usedTo often often.length).length
    · rw [if_pos h2] at h
      cases h
    · rw [if_neg h2]
      rw [Int.toNat_natCast] at h2 ⊢
      exact ⟨by omega, L, rfl, by omega, by omega, by omega, rfl⟩
theorem lensE_bad {often : List Nat} {limit : Int} (h : (lensE often limit).2 ≠ 0) : (lensE often limit).1 = [] := by
  unfold lensE at h ⊢
  split at h
  · rename_i h1
    rw [if_pos h1]
  · rename_i h1
    rw [if_neg h1]
    split at h
    · rename_i h2
      rw [if_pos h2]
    · exact absurd rfl h
theorem more_ok {often : List Nat} {L : Nat} (h300 : often.length ≤ 300) (hL : 1 ≤ L) (hL14 : L + 1 ≤ 15) (hn : (usedTo often often.length).length ≤ 2 ^ L) :
    lensE often ((L : Int) + 1) = (lensL often (L + 1), 0) ∧ costE often (lensL often L) = (costOf often (lensL often L) (lensL often L).length, 0) ∧ costE often (lensL often (L + 1)) = (costOf often (lensL often (L + 1)) (lensL often (L + 1)).length, 0) ∧
      costOf often (lensL often (L + 1)) (lensL often (L + 1)).length ≤ costOf often (lensL often L) (lensL often L).length := by
  have hn' : (usedTo often often.length).length ≤ 2 ^ (L + 1) := by rw [Nat.pow_succ]; omega
  refine ⟨?_, if_pos ⟨lensL_len.symm, by rw [lensL_len]; exact h300⟩, if_pos ⟨lensL_len.symm, by rw [lensL_len]; exact h300⟩, ?_⟩
  · unfold lensE
    rw [if_neg (by omega), show ((L : Int) + 1).toNat = L + 1 by omega, if_neg (by omega)]
  · rw [costOf_lens hL (by omega) hn, costOf_lens (by omega) hL14 hn']
    exact lenN_more hL hL14 hn

set_option maxHeartbeats 2000000 in
set_option maxRecDepth 100000 in
theorem lensMore_walk0 (limit : Int) (A : Option Addr) (n c : Nat) (often : List Nat) (w : World) (hL : LensC w) (hC : CostC w) (hl0 : 0 ≤ limit) (hl1 : limit ≤ 255) (hn : n ≤ c) (hc : c ≤ maxLen) (h : U32At w w.heap.size A n often) :
    Calls Try.prog 8 #[.slice A n c, .int .u8 limit] w fun e w' => e = .returned (.bool true) ∧ Below w.heap.size w w' := by
  have hlen := h.1
  go_enter Try.func8, Try.ntmps8
  go_wp2_with fail
  refine (alive7_any hL (Ext.refl w)).mono ?_
  rintro e w1 ⟨rfl, hE1⟩
  by_cases h300 : (300 : Int) < (n : Int)
  · clear hlen
    go_wp2
    go_ret
    exact ⟨rfl, hE1⟩
  obtain ⟨L, hm⟩ : ∃ L : Nat, 1 + limit % 14 = (L : Int) := ⟨(1 + limit % 14).toNat, by omega⟩
  have hL1 : 1 ≤ L := by omega
  have hL14 : L + 1 ≤ 15 := by omega
  have C1 := hL often (L : Int) A n c w1 hE1 hn hc (h.ext hE1) (by omega) (by omega)
  have C2 := fun W hE => hL often ((L : Int) + 1) A n c W hE hn hc (h.ext hE) (by omega) (by omega)
  have T := fun (l : List UInt8) (A2 : Option Addr) (n2 c2 : Nat) W hE a b (d : Bytes W W.heap.size A2 n2 l) => hC often l A A2 n c n2 c2 W hE hn a hc b (h.ext hE) d
  have HL := hide hlen
  have HM := hide hm
  have h300' : often.length ≤ 300 := by omega
  by_cases hok : (usedTo often often.length).length ≤ 2 ^ L
  · have hE0 : lensE often (L : Int) = (lensL often L, 0) := by
      unfold lensE
      rw [if_neg (by omega), Int.toNat_natCast, if_neg (by omega)]
    obtain ⟨m1, m2, m3, m4⟩ := more_ok h300' hL1 hL14 hok
    have T1 := T (lensL often L)
    have T2 := T (lensL often (L + 1))
    rw [hE0] at C1
    rw [m1] at C2
    unfold TellsI at T1 T2
    rw [m2] at T1
    rw [m3] at T2
    have hle : ((costOf often (lensL often (L + 1)) (lensL often (L + 1)).length : Nat) : Int) ≤ ((costOf often (lensL often L) (lensL often L).length : Nat) : Int) := by omega
    dsimp only at T1 T2
    generalize costOf often (lensL often (L + 1)) (lensL often (L + 1)).length = y at *
    generalize costOf often (lensL often L) (lensL often L).length = x at *
    generalize lensL often L = la at *
    generalize lensL often (L + 1) = lb at *
    clear h hlen hm m1 m2 m3 m4 hE0 T h300' hok
    go_wp2_with fail
    rw [HM.out]
    refine C1.mono ?_
    rintro e w2 ⟨v2, rfl, hO2, hE2⟩
    have hF2 := hE1.trans hE2
    dsimp only at hO2
    obtain ⟨A2, c2, rfl, hc2, hm2, hB2⟩ := hO2.form
    go_wp2_with fail
    refine (C2 _ hF2).mono ?_
    rintro e w3 ⟨v3, rfl, hO3, hE3⟩
    have hF3 := hF2.trans hE3
    dsimp only at hO3
    obtain ⟨A3, c3, rfl, hc3, hm3, hB3⟩ := hO3.form
    go_wp2_with fail
    refine (T1 A2 la.length c2 _ hF3 hc2 hm2 (hE3.bytes hB2)).mono ?_
    rintro e w4 ⟨rfl, hE4⟩
    have hF4 := hF3.trans hE4
    go_wp2_with fail
    refine (T2 A3 lb.length c3 _ hF4 hc3 hm3 (hE4.bytes hB3)).mono ?_
    rintro e w5 ⟨rfl, hE5⟩
    go_wp2
    go_ret
    exact ⟨rfl, hF4.trans hE5⟩
  · have hE0 : lensE often (L : Int) = ([], 6) := by
      unfold lensE
      rw [if_neg (by omega), Int.toNat_natCast, if_pos (by omega)]
    rw [hE0] at C1
    clear h hlen hm hE0 T h300' hok
    go_wp2_with fail
    rw [HM.out]
    refine C1.mono ?_
    rintro e w2 ⟨v2, rfl, hO2, hE2⟩
    have hF2 := hE1.trans hE2
    go_wp2_with fail
    refine (C2 _ hF2).mono ?_
    rintro e w3 ⟨v3, rfl, hO3, hE3⟩
    go_wp2
    go_ret
    exact ⟨rfl, hF2.trans hE3⟩
end Go.Proofs.Ytijelijooecoeaa
