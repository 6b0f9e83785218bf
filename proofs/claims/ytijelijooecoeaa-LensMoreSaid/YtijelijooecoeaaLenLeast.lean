/- The law LensBest. -/
import Derived.Test.YtijelijooecoeaaLenLaw2
namespace Go.Proofs.Ytijelijooecoeaa
open Go.RowKit Len

theorem least_cost {often : List Nat} {other : List UInt8} {L : Nat} (h300 : often.length ≤ 300) (hL : 1 ≤ L) (hL15 : L ≤ 15) (hu : (usedTo often often.length).length ≤ 2 ^ L) (hlen : other.length = often.length)
    (ho : ∀ q, q < often.length → (other.getD q 0).toNat ≤ L ∧ (often.getD q 0 ≠ 0 → (other.getD q 0).toNat ≠ 0)) (hK : kraftOf other other.length ≤ 32768) :
    costE often (lensL often L) = (costOf often (lensL often L) often.length, 0) ∧ costE often other = (costOf often other often.length, 0) ∧ costOf often (lensL often L) often.length ≤ costOf often other often.length := by
  refine ⟨?_, ?_, ?_⟩
  · unfold costE
    rw [if_pos ⟨lensL_len.symm, by rw [lensL_len]; exact h300⟩, lensL_len]
  · unfold costE
    rw [if_pos ⟨hlen.symm, by omega⟩, hlen]
  · have h1 := lenN_best hL hL15 hu (fun q => (other.getD q 0).toNat) (fun q hq => (ho q hq).1) (fun q hq h0 => Nat.one_le_iff_ne_zero.2 ((ho q hq).2 h0)) (Nat.le_trans (by
      unfold kraftOf
      rw [hlen]
      refine sumN_le fun q hq => ?_
      by_cases h0 : often.getD q 0 = 0
      · rw [if_pos h0]
        exact Nat.zero_le _
      · rw [if_neg h0, if_neg ((ho q hq).2 h0)]
        exact Nat.le_refl _) hK)
    unfold costOf
    rw [sumN_congr (g := fun q => often.getD q 0 * lenN often L q) (fun q hq => by rw [lensL_at hq hL hL15 hu])]
    exact h1

set_option maxHeartbeats 4000000 in
set_option maxRecDepth 100000 in
theorem lensBest_walk0 (limit : Int) (A1 A2 : Option Addr) (n1 c1 n2 c2 : Nat) (often : List Nat) (other : List UInt8) (w : World) (hL : LensC w) (hC : CostC w) (hl0 : -9223372036854775808 ≤ limit) (hl1 : limit ≤ 9223372036854775807) (hn1 : n1 ≤ c1) (hc1 : c1 ≤ maxLen) (hn2 : n2 ≤ c2) (hc2 : c2 ≤ maxLen)
    (h1 : U32At w w.heap.size A1 n1 often) (h2 : Bytes w w.heap.size A2 n2 other) :
    Calls Try.prog 7 #[.slice A1 n1 c1, .int .i64 limit, .slice A2 n2 c2] w fun e w' => e = .returned (.bool true) ∧ Below w.heap.size w w' := by
  have C1 := fun W hE => hL often limit A1 n1 c1 W hE hn1 hc1 (h1.ext hE) hl0 hl1
  have hlen1 := h1.1
  have hlen2 := h2.1
  go_enter Try.func7, Try.ntmps7
  go_wp2_with fail
  refine (alive7_any hL (Ext.refl w)).mono ?_
  rintro e w1 ⟨rfl, hE1⟩
  have HL1 := hide hlen1
  have HL2 := hide hlen2
  clear hlen1 hlen2
  by_cases h300 : (300 : Int) < (n1 : Int)
  · go_wp2
    go_ret
    exact ⟨rfl, hE1⟩
  by_cases hnn : n2 = n1
  case neg =>
    have hne : ((n2 : Int) != (n1 : Int)) = true := by simp; omega
    go_wp2
    go_ret
    exact ⟨rfl, hE1⟩
  have hne : ((n2 : Int) != (n1 : Int)) = false := by simp; omega
  have HNN := hide hnn
  by_cases hr : (lensE often limit).2 = 0
  · obtain ⟨h300', L, rfl, hL1, hL15, hu, hEq⟩ := lensE_ok hr
    rw [hEq] at C1
    have HLeast := hide (fun (hlen : other.length = often.length) ho hK => least_cost (other := other) h300' hL1 hL15 hu hlen ho hK)
    have hll : (lensL often L).length = n1 := by rw [lensL_len]; exact HL1.out
    generalize lensL often L = la at *
    clear hr hEq h300' hu hnn
    have K := fun W (hE : Ext w W) => refKraft_any A2 n2 c2 other W ((h2.below hE (Nat.le_refl _)).mono hE.le)
    have T1 := fun (A3 : Option Addr) (c3 : Nat) W (hE : Ext w W) a b (d : Bytes W W.heap.size A3 n1 la) => hC often la A1 A3 n1 c1 n1 c3 W hE hn1 a hc1 b (h1.ext hE) d
    have T2 := fun W (hE : Ext w W) => hC often other A1 A2 n1 c1 n2 c2 W hE hn1 hn2 hc1 hc2 (h1.ext hE) ((h2.below hE (Nat.le_refl _)).mono hE.le)
    go_wp2_with fail
    refine (C1 _ hE1).mono ?_
    rintro e w2 ⟨v2, rfl, hO2, hE2⟩
    have hF2 := hE1.trans hE2
    dsimp only at hO2
    obtain ⟨A3, c3, rfl, hc3, hm3, hB3⟩ := hO2.form
    rw [hll] at hB3 hc3 ⊢
    clear hO2 C1
    by_cases hk : kraftE other = (0, 13)
    · rw [hk] at K
      unfold TellsI at K
      go_wp2_with fail
      refine (K _ hF2).mono ?_
      rintro e w3 ⟨rfl, hE3⟩
      go_wp2
      go_ret
      exact ⟨rfl, hF2.trans hE3⟩
    have hk' : kraftE other = (kraftOf other other.length, 0) := by
      unfold kraftE at hk ⊢
      split
      · rfl
      · rename_i h
        rw [if_neg h] at hk
        exact absurd rfl hk
    rw [hk'] at K
    unfold TellsI at K
    have HKR := hide (show kraftOf other other.length = kraftOf other other.length from rfl)
    obtain ⟨kr, hkr⟩ : ∃ k, k = kraftOf other other.length := ⟨_, rfl⟩
    rw [← hkr] at K
    have HKr := hide hkr
    clear hk hk' HKR hkr
    go_wp2_with fail
    refine (K _ hF2).mono ?_
    rintro e w3 ⟨rfl, hE3⟩
    have hF3 := hF2.trans hE3
    dsimp only
    by_cases hk32 : (32768 : Int) < (kr : Int)
    · go_wp2
      go_ret
      exact ⟨rfl, hF3⟩
    clear K
    go_wp2_with fail
    go_loopw [10] (fun b wr => ∃ i : Nat, i ≤ n2 ∧ b = .int .i64 (i : Int) ∧ (∀ q, q < i → (other.getD q 0).toNat ≤ L ∧ (often.getD q 0 ≠ 0 → (other.getD q 0).toNat ≠ 0)) ∧ Ext w3 wr) (fun b _ => n2 - (intOf b).toNat)
    case atStart => exact ⟨0, by omega, rfl, fun q hq => absurd hq (by omega), Ext.refl _⟩
    case round =>
      obtain ⟨i, hi, rfl, hall, hE⟩ := hrel
      have HAll := hide hall
      have hEw := hF3.trans hE
      clear hall
      by_cases hlt : i < n2
      · rcases (h1.ext hEw).2.2 with h0 | ⟨b1, o1, rfl, hb1, hcc1⟩
        · have := HNN.out; omega
        rcases ((h2.below hEw (Nat.le_refl _)).mono hEw.le).2 with h0 | ⟨b2, o2, rfl, hb2, hcc2⟩
        · omega
        have k1 := hcc1 i (by have := HNN.out; omega)
        have k2 := hcc2 i hlt
        have hi1 : (i : Int) < (n1 : Int) := by have := HNN.out; omega
        have hi2 : (i : Int) < (n2 : Int) := by omega
        obtain ⟨oi, hoi⟩ : ∃ o, o = often.getD i 0 := ⟨_, rfl⟩
        obtain ⟨y, hy⟩ : ∃ y, y = (other.getD i 0).toNat := ⟨_, rfl⟩
        have hy8 := UInt8.toNat_lt (other.getD i 0)
        rw [← hoi] at k1
        rw [← hy] at k2 hy8
        have hwr : IntKind.i64.wrap (y : Int) = (y : Int) := by rw [IntKind.wrap_i64]; omega
        have HO := hide hoi
        have HY := hide hy
        clear hcc1 hcc2 hoi hy h1 h2 T1 T2
        by_cases hyL : (L : Int) < (y : Int)
        · go_wp2
          go_ret
          exact ⟨rfl, hEw⟩
        by_cases ho0 : oi = 0
        · have hz : ¬ ((0 : Int) < (oi : Int)) := by omega
          have hyl : (y : Int) ≤ 15 := by omega
          have HO0 := hide ho0
          clear ho0
          go_wp2
          go_roundw
          case rel => exact ⟨i + 1, by omega, by go_num, fun q hq => (by
            by_cases hqi : q = i
            · rw [hqi, ← HY.out, ← HO.out]
              exact ⟨by omega, fun h => absurd HO0.out h⟩
            · exact HAll.out q (by omega)), hE⟩
          case measure => simp [intOf]; omega
        · have hz : (0 : Int) < (oi : Int) := by omega
          by_cases hy0 : y = 0
          · have hyz : ((y : Int) == 0) = true := by simp; omega
            have HY0 := hide hy0
            clear hy0 ho0
            go_wp2
            go_ret
            exact ⟨rfl, hEw⟩
          · have hyz : ((y : Int) == 0) = false := by simp; omega
            have HO0 := hide ho0
            have HY0 := hide hy0
            clear ho0 hy0
            go_wp2
            go_roundw
            case rel => exact ⟨i + 1, by omega, by go_num, fun q hq => (by
              by_cases hqi : q = i
              · rw [hqi, ← HY.out, ← HO.out]
                exact ⟨by omega, fun _ => HY0.out⟩
              · exact HAll.out q (by omega)), hE⟩
            case measure => simp [intOf]; omega
      · obtain rfl : n2 = i := by omega
        obtain ⟨m1, m2, m3⟩ := HLeast.out (by rw [HL2.out, HNN.out, HL1.out]) (fun q hq => HAll.out q (by have := HL1.out; have := HNN.out; omega)) (by have := HKr.out; omega)
        rw [m1] at T1
        rw [m2] at T2
        unfold TellsI at T1 T2
        have hle : ((costOf often la often.length : Nat) : Int) ≤ ((costOf often other often.length : Nat) : Int) := by omega
        dsimp only at T1 T2
        generalize costOf often la often.length = x at *
        generalize costOf often other often.length = z at *
        clear m1 m2 m3 HLeast h1 h2
        go_wp2_with fail
        refine (T1 A3 c3 _ hEw hc3 hm3 ((hE3.trans hE).bytes hB3)).mono ?_
        rintro e w5 ⟨rfl, hE5⟩
        have hF5 := hEw.trans hE5
        go_wp2_with fail
        refine (T2 _ hF5).mono ?_
        rintro e w6 ⟨rfl, hE6⟩
        go_wp2
        go_ret
        exact ⟨rfl, hF5.trans hE6⟩
  · have hne2 : ((lensE often limit).2 != 0) = true := by simpa using hr
    generalize lensE often limit = r at *
    obtain ⟨r1, r2⟩ := r
    dsimp only at hr hne2 C1
    clear h1 h2 hnn
    go_wp2_with fail
    refine (C1 _ hE1).mono ?_
    rintro e w2 ⟨v2, rfl, hO2, hE2⟩
    go_wp2
    go_ret
    exact ⟨rfl, hE1.trans hE2⟩
end Go.Proofs.Ytijelijooecoeaa
