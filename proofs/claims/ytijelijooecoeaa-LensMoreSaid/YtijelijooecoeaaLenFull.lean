/- The law LensFull. -/
import Derived.Test.YtijelijooecoeaaLenLaw2
namespace Go.Proofs.Ytijelijooecoeaa
open Go.RowKit Len

/-- How many are used. -/
def usedN (often : List Nat) (i : Nat) : Nat := sumN i fun q => if often.getD q 0 = 0 then 0 else 1
theorem usedN_le (often : List Nat) : ∀ i, usedN often i ≤ i := fun i => by
  have := used_le (often := often) i
  rw [used_len] at this
  exact this
theorem kraft_lens {often : List Nat} {L : Nat} (h300 : often.length ≤ 300) (hL : 1 ≤ L) (hL15 : L ≤ 15) (hu : (usedTo often often.length).length ≤ 2 ^ L) :
    kraftE (lensL often L) = ((if 2 ≤ usedN often often.length then 32768 else if usedN often often.length = 1 then 16384 else 0), 0) := by
  have hf := lenN_full hL hL15 hu
  rw [used_len] at hf
  have hk : kraftOf (lensL often L) (lensL often L).length = sumN often.length fun q => if often.getD q 0 = 0 then 0 else 2 ^ (15 - lenN often L q) := by
    unfold kraftOf
    rw [lensL_len]
    refine sumN_congr fun q hq => ?_
    rw [lensL_at hq hL hL15 hu]
    by_cases h0 : often.getD q 0 = 0
    · rw [if_pos h0, if_pos (lenN_free h0 hL hu)]
    · have := (lenN_used hq h0 hL hu).1
      rw [if_neg h0, if_neg (by omega)]
  unfold kraftE
  rw [if_pos ⟨by rw [lensL_len]; exact h300, fun q hq => by
    rw [lensL_len] at hq
    rw [lensL_at hq hL hL15 hu]
    have := lenN_small hq hL hL15 hu
    omega⟩, hk, hf]
  rfl

set_option maxHeartbeats 4000000 in
set_option maxRecDepth 100000 in
theorem lensFull_walk0 (limit : Int) (A : Option Addr) (n c : Nat) (often : List Nat) (w : World) (hL : LensC w) (hK : KraftC w) (hl0 : -9223372036854775808 ≤ limit) (hl1 : limit ≤ 9223372036854775807) (hn : n ≤ c) (hc : c ≤ maxLen) (h : U32At w w.heap.size A n often) :
    Calls Try.prog 5 #[.slice A n c, .int .i64 limit] w fun e w' => e = .returned (.bool true) ∧ Below w.heap.size w w' := by
  have C1 := fun W hE => hL often limit A n c W hE hn hc (h.ext hE) hl0 hl1
  have hlen := h.1
  go_enter Try.func5, Try.ntmps5
  go_wp2_with fail
  refine (alive7_any hL (Ext.refl w)).mono ?_
  rintro e w1 ⟨rfl, hE1⟩
  by_cases hr : (lensE often limit).2 = 0
  · obtain ⟨h300, L, rfl, hL1, hL15, hu, hEq⟩ := lensE_ok hr
    rw [hEq] at C1
    have hll : (lensL often L).length = n := by rw [lensL_len]; exact hlen
    have HAt := hide (fun q (hq : q < n) => show ((lensL often L).getD q 0).toNat ≤ L ∧ (((lensL often L).getD q 0).toNat = 0 ↔ often.getD q 0 = 0) by
      have hq' : q < often.length := by omega
      rw [lensL_at hq' hL1 hL15 hu]
      refine ⟨lenN_small hq' hL1 hL15 hu, fun h0 => ?_, fun h0 => lenN_free h0 hL1 hu⟩
      by_cases h1 : often.getD q 0 = 0
      · exact h1
      · have := (lenN_used hq' h1 hL1 hu).1
        omega)
    have HKr := hide (kraft_lens h300 hL1 hL15 hu)
    have hKr := hK (lensL often L)
    rw [HKr.out, hlen] at hKr
    have h300n : n ≤ 300 := by omega
    have HUs := hide (show ∀ i, usedN often (i + 1) = usedN often i + if often.getD i 0 = 0 then 0 else 1 from fun _ => rfl)
    have HUl := hide (usedN_le often)
    generalize lensL often L = la at *
    clear hr hEq h300 hlen hu HKr
    unfold TellsI at hKr
    go_wp2_with fail
    refine (C1 _ hE1).mono ?_
    rintro e w2 ⟨v2, rfl, hO2, hE2⟩
    have hF2 := hE1.trans hE2
    dsimp only at hO2
    obtain ⟨A2, c2, rfl, hc2, hm2, hB2⟩ := hO2.form
    rw [hll] at hB2 hc2 ⊢
    have hnn : ((n : Int) != (n : Int)) = false := by simp
    clear hO2 C1
    go_wp2_with fail
    go_loopw [7, 8] (fun a b wr => ∃ i u : Nat, i ≤ n ∧ b = .int .i64 (i : Int) ∧ a = .int .i64 (u : Int) ∧ u = usedN often i ∧ Ext w2 wr) (fun _ b _ => n - (intOf b).toNat)
    case atStart => exact ⟨0, 0, by omega, rfl, rfl, rfl, Ext.refl _⟩
    case round =>
      obtain ⟨i, u, hi, rfl, rfl, hus, hE⟩ := hrel
      have hule := HUl.out i
      rw [← hus] at hule
      by_cases hlt : i < n
      · rcases (h.ext (hF2.trans hE)).2.2 with h0 | ⟨b1, o1, rfl, hb1, hc1⟩
        · omega
        rcases (hE.bytes hB2).2 with h0 | ⟨b2, o2, rfl, hb2, hcc2⟩
        · omega
        have k1 := hc1 i hlt
        have k2 := hcc2 i hlt
        obtain ⟨p1, p2⟩ := HAt.out i hlt
        have hnext := HUs.out i
        rw [← hus] at hnext
        have hilI : (i : Int) < (n : Int) := by omega
        have HUS := hide hus
        clear hc1 hcc2 hus
        generalize often.getD i 0 = oi at *
        generalize (la.getD i 0).toNat = y at *
        have hd0 : decide ((L : Int) < (y : Int)) = false := decide_eq_false (by omega)
        have hwr : IntKind.i64.wrap (y : Int) = (y : Int) := by rw [IntKind.wrap_i64]; omega
        by_cases h0 : oi = 0
        · have hy0 : y = 0 := p2.2 h0
          rw [if_pos h0, Nat.add_zero] at hnext
          have HN := hide hnext
          have hd1 : decide ((0 : Int) < (y : Int)) = false := decide_eq_false (by omega)
          have hd2 : decide ((0 : Int) < (oi : Int)) = false := decide_eq_false (by omega)
          have hy1 : ¬ ((0 : Int) < (y : Int)) := by omega
          have hq1 : (!decide ((0 : Int) < (y : Int)) == decide ((0 : Int) < (oi : Int))) = false := by rw [hd1, hd2]; rfl
          have hq2 : (decide ((0 : Int) < (y : Int)) != decide ((0 : Int) < (oi : Int))) = false := by rw [hd1, hd2]; rfl
          have hLy : ¬ ((L : Int) < (y : Int)) := by omega
          have hLyN : ¬ (L < y) := by omega
          have hq3 : (!decide (0 < y) == decide (0 < oi)) = false := by simpa using hq1
          clear h0 hy0
          clear hnext p2
          go_wp2_with fail
          go_quiet (fail)
          have hEq4 : Ext wr (wr.drewN nq) := (Ext.refl wr).drewN nq
          generalize wr.drewN nq = w4 at hEq4 ⊢
          have k24 := (hEq4.cell hb2).trans k2
          have hE4 := hE.trans hEq4
          go_wp2
          go_roundw
          case rel => exact ⟨i + 1, u, by omega, by go_num, rfl, HN.out.symm, hE4⟩
          case measure => simp [intOf]; omega
        · have hy0 : y ≠ 0 := fun e => h0 (p2.1 e)
          rw [if_neg h0] at hnext
          have HN := hide hnext
          have hd1 : decide ((0 : Int) < (y : Int)) = true := decide_eq_true (by omega)
          have hd2 : decide ((0 : Int) < (oi : Int)) = true := decide_eq_true (by omega)
          have hy1 : (0 : Int) < (y : Int) := by omega
          have hq1 : (!decide ((0 : Int) < (y : Int)) == decide ((0 : Int) < (oi : Int))) = false := by rw [hd1, hd2]; rfl
          have hq2 : (decide ((0 : Int) < (y : Int)) != decide ((0 : Int) < (oi : Int))) = false := by rw [hd1, hd2]; rfl
          have hLy : ¬ ((L : Int) < (y : Int)) := by omega
          have hLyN : ¬ (L < y) := by omega
          have hq3 : (!decide (0 < y) == decide (0 < oi)) = false := by simpa using hq1
          have ho1 : (0 : Int) < (oi : Int) := by omega
          have HP := hide p2
          clear hnext p2 h0 hy0
          go_wp2_with fail
          go_quiet (fail)
          have hEq4 : Ext wr (wr.drewN nq) := (Ext.refl wr).drewN nq
          generalize wr.drewN nq = w4 at hEq4 ⊢
          have k24 := (hEq4.cell hb2).trans k2
          have hE4 := hE.trans hEq4
          go_wp2
          go_roundw
          case rel => exact ⟨i + 1, u + 1, by omega, by go_num, by go_num, HN.out.symm, hE4⟩
          case measure => simp [intOf]; omega
      · obtain rfl : n = i := by omega
        have hKw := hKr A2 n c2 wr (hF2.trans hE) hc2 hm2 (hE.bytes hB2)
        rw [← hus] at hKw
        have HU := hide hus
        clear h hB2 hKr hus
        by_cases hu2 : 2 ≤ u
        · rw [if_pos hu2] at hKw
          have hI : (2 : Int) ≤ (u : Int) := by omega
          go_wp2_with fail
          refine hKw.mono ?_
          rintro e w5 ⟨rfl, hE5⟩
          go_wp2
          go_ret
          exact ⟨rfl, (hF2.trans hE).trans hE5⟩
        · rw [if_neg hu2] at hKw
          by_cases hu1 : u = 1
          · rw [if_pos hu1] at hKw
            subst hu1
            go_wp2_with fail
            refine hKw.mono ?_
            rintro e w5 ⟨rfl, hE5⟩
            go_wp2
            go_ret
            exact ⟨rfl, (hF2.trans hE).trans hE5⟩
          · obtain rfl : u = 0 := by omega
            rw [if_neg hu1] at hKw
            go_wp2_with fail
            refine hKw.mono ?_
            rintro e w5 ⟨rfl, hE5⟩
            go_wp2
            go_ret
            exact ⟨rfl, (hF2.trans hE).trans hE5⟩
  · have hne : ((lensE often limit).2 != 0) = true := by simpa using hr
    have hnil := lensE_bad hr
    generalize lensE often limit = r at *
    obtain ⟨r1, r2⟩ := r
    dsimp only at hr hne C1 hnil
    subst hnil
    clear h hlen
    go_wp2_with fail
    refine (C1 _ hE1).mono ?_
    rintro e w2 ⟨v2, rfl, hO2, hE2⟩
    dsimp only at hO2
    obtain ⟨A2, c2, rfl, _, _, _⟩ := hO2.form
    go_wp2
    go_ret
    exact ⟨rfl, hE1.trans hE2⟩
end Go.Proofs.Ytijelijooecoeaa
