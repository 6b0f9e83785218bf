/- The law MatRanks. -/
import Derived.Test.YtedkajpodepkiaaMatRankR
import Derived.Test.YtedkajpodepkiaaMatTurns
namespace Go.Proofs.Ytedkajpodepkiaa
open Go.RowKit

/-- From world w on, the program's Rank tells the rank. -/
def RankC (w : World) : Prop := ∀ (m : MV) (A : Option Addr) (k : Nat) (W : World), Ext w W → m.lies W A k → Calls Try.prog 31 #[m.arg A k] W fun e W' => e = .returned (.tuple #[.int .i64 ((m.rankE.1 : Nat) : Int), .int .i64 m.rankE.2]) ∧ Ext W W'
theorem MV.rank_inv (m : MV) : m.rankE.2 ≠ 0 ∨ m.r ≠ m.c ∨ (m.invE.2 = 0 ↔ ((m.rankE.1 : Nat) : Int) = m.r) := by
  by_cases hm : m.may = true
  · by_cases hr : m.r = m.c
    · refine .inr (.inr ?_)
      obtain ⟨q1, q2, q3, q4, q5⟩ := MV.may_iff.1 hm
      have e : m.rankE = (Mat.rankOf m.r.toNat m.c.toNat m.at, 0) := if_pos hm
      have hs := Mat.rankOf_spec m.r.toNat m.c.toNat m.at
      rw [e]
      rw [← hr] at hs ⊢
      have hf := hs.full
      generalize Mat.rankOf m.r.toNat m.r.toNat m.at = k at *
      have h1 : (k = m.r.toNat) ↔ ((k : Int) = m.r) := by omega
      rw [← h1, ← hf]
      unfold MV.invE
      rw [if_pos ⟨hm, hr⟩]
      by_cases he : ∃ X, Mat.Inv m.r.toNat m.at X
      · rw [dif_pos he]; exact ⟨fun _ => he, fun _ => rfl⟩
      · rw [dif_neg he]; exact ⟨fun h => by simp at h, fun h => absurd h he⟩
    · exact .inr (.inl hr)
  · have e : m.rankE = (0, 13) := if_neg hm
    rw [e]
    exact .inl (by simp)

set_option maxHeartbeats 4000000 in
set_option maxRecDepth 100000 in
theorem matRanks_walk0 (a : MV) (A1 : Option Addr) (k1 : Nat) (w : World) (hC : CauchyC w) (hI : InverseC w) (hK : RankC w) (ha : a.lies w A1 k1) :
    Calls Try.prog 10 #[a.arg A1 k1] w fun e w' => e = .returned (.bool true) ∧ Below w.heap.size w w' := by
  have G1 := fun W h => great_any a A1 k1 W h
  have I1 := fun W hE h => hI a A1 k1 W hE h
  have K1 := fun W hE h => hK a A1 k1 W hE h
  have K2 := fun W h => refRank_any a A1 k1 W h
  have hT := MV.rank_inv a
  generalize (a.may && decide (400 < a.l.length)) = ga at *
  generalize a.invE.1 = x at *
  generalize a.invE.2 = ea at *
  generalize a.rankE.1 = rk at *
  generalize a.rankE.2 = er at *
  have hae : a.arg A1 k1 = .agg #[.int .i64 a.r, .int .i64 a.c, .slice A1 a.l.length k1] := rfl
  rw [hae] at G1 I1 K1 K2 ⊢
  have HT := hide hT
  clear hae hI hK hT
  have hE := (extNew w (.cells #[.int .i64 a.r, .int .i64 a.c, .slice A1 a.l.length k1] 24))
  have hWa := (Whole.new w 24 #[.int .i64 a.r, .int .i64 a.c, .slice A1 a.l.length k1])
  go_enter Try.func10, Try.ntmps10
  go_wp2_with fail
  refine (alive5_any hC hE).mono ?_
  rintro e w1 ⟨rfl, hE1⟩
  have k1' := hE.trans hE1
  have hWa1 := hWa.ext hE1
  go_wp2_with (refine wpList_load_row rfl 24 (.tmp 1) rfl _ rfl _ _ _ _ hWa1 Try.underlying24 rfl mat_info ?_)
  refine (G1 w1 (ha.ext k1')).mono ?_
  rintro e w2 ⟨rfl, hE2⟩
  have k2' := k1'.trans hE2
  have hWa2 := hWa1.ext hE2
  cases ga
  case true =>
    go_wp2
    go_ret
    exact ⟨rfl, k2'⟩
  go_wp2_with (refine wpList_load_row rfl 24 (.tmp 1) rfl _ rfl _ _ _ _ hWa2 Try.underlying24 rfl mat_info ?_)
  refine (K1 w2 k2' (ha.ext k2')).mono ?_
  rintro e w3 ⟨rfl, hE3⟩
  have k3' := k2'.trans hE3
  have hWa3 := hWa2.ext hE3
  go_wp2_with (refine wpList_load_row rfl 24 (.tmp 1) rfl _ rfl _ _ _ _ hWa3 Try.underlying24 rfl mat_info ?_)
  refine (K2 w3 (ha.ext k3')).mono ?_
  rintro e w4 ⟨rfl, hE4⟩
  have k4' := k3'.trans hE4
  have hWa4 := hWa3.ext hE4
  clear hWa hWa1 hWa2 hWa3 G1 K1 K2
  go_wp2_with (refine wpList_load_row rfl 24 (.tmp 1) rfl _ rfl _ _ _ _ hWa4 Try.underlying24 rfl mat_info ?_)
  refine (I1 w4 k4' (ha.ext k4')).mono ?_
  rintro e w5 ⟨v, rfl, hO5, hE5⟩
  obtain ⟨A5, n5, c5, rfl, _, _, hB5⟩ := hO5.form'
  have hA5 := Whole.new w5 24 #[.int .i64 0, .int .i64 0, .slice none 0 0]
  have k5' := k4'.trans hE5
  have hWa5 := hWa4.ext hE5
  dsimp only [matV]
  clear I1 hWa4 hO5 hB5
  by_cases he : er = 0
  · by_cases hrc : a.r = a.c
    · have hq : (ea == 0) = (((rk : Nat) : Int) == a.r) := by
        rcases HT.out with h | h | h
        · exact absurd he h
        · exact absurd hrc h
        · rw [Bool.eq_iff_iff, beq_iff_eq, beq_iff_eq]; exact h
      have hrc' : (a.r != a.c) = false := by simpa using hrc
      have HQ := hide hq
      subst he
      clear hrc hq
      go_wp2_with (refine wpList_storeW rfl 24 (.tmp 7) (.tmp 34) rfl rfl rfl hA5 rfl mat_info (mat_one rfl) ?_; intro w6 hW6 hG6 _; have hE6 := Ext.put hG6; have hWa6 := hWa5.ext hE6; have r0 := hWa6.at 0 rfl; have r1 := hWa6.at 1 rfl)
      go_ret
      exact ⟨ret_bool (by rw [HQ.out]; simp), k5'.trans hE6⟩
    · have hrc' : (a.r != a.c) = true := by simpa using hrc
      subst he
      clear hrc
      go_wp2_with (refine wpList_storeW rfl 24 (.tmp 7) (.tmp 34) rfl rfl rfl hA5 rfl mat_info (mat_one rfl) ?_; intro w6 hW6 hG6 _; have hE6 := Ext.put hG6; have hWa6 := hWa5.ext hE6; have r0 := hWa6.at 0 rfl; have r1 := hWa6.at 1 rfl)
      go_ret
      exact ⟨rfl, k5'.trans hE6⟩
  · have he' : (er != 0) = true := by simpa using he
    clear he
    go_wp2_with (refine wpList_storeW rfl 24 (.tmp 7) (.tmp 34) rfl rfl rfl hA5 rfl mat_info (mat_one rfl) ?_; intro w6 hW6 hG6 _; have hE6 := Ext.put hG6; have hWa6 := hWa5.ext hE6; have r0 := hWa6.at 0 rfl; have r1 := hWa6.at 1 rfl)
    go_ret
    exact ⟨rfl, k5'.trans hE6⟩
end Go.Proofs.Ytedkajpodepkiaa
