/- The law MatFlat. -/
import Derived.Test.YtedkajpodepkiaaMatRanks
namespace Go.Proofs.Ytedkajpodepkiaa
open Go.RowKit

/-- The first j bytes are 0. -/
def allZ (l : List UInt8) (j : Nat) : Bool := (List.range j).all fun a => l.getD a 0 == 0
theorem allZ_succ (l : List UInt8) (j : Nat) : allZ l (j + 1) = (allZ l j && (l.getD j 0 == 0)) := by simp [allZ, List.range_succ]
theorem allZ_iff {l : List UInt8} {j : Nat} : allZ l j = true ↔ ∀ a, a < j → l.getD a 0 = 0 := by simp [allZ]
theorem u8_beq (x : UInt8) : ((x.toNat : Int) == 0) = (x == 0) := by
  rw [Bool.eq_iff_iff, beq_iff_eq, beq_iff_eq]
  exact ⟨fun h => Mat.ext8 (by have : x.toNat = 0 := by omega
                               exact this), fun h => by rw [h]; rfl⟩
/-- A row that takes the matrix to 0. -/
theorem MV.flat_row {a : MV} {l : List UInt8} {n : Nat} (hm : a.may = true) (hr : a.r = n) (hc : a.c = n) (hl : l.length = n) :
    (⟨1, n, l⟩ : MV).mulE a = (⟨1, n, cellsOf n (Mat.mm n (⟨1, n, l⟩ : MV).at a.at) (1 * n)⟩, 0) ∧ (allZ l n = false → allZ (cellsOf n (Mat.mm n (⟨1, n, l⟩ : MV).at a.at) (1 * n)) n = true → a.invE = (MV.zero, 14)) := by
  obtain ⟨q1, q2, q3, q4, q5⟩ := MV.may_iff.1 hm
  have hv : (⟨1, n, l⟩ : MV).may = true := MV.may_iff.2 ⟨by simp, by simp, by simp, by simp; omega, by simp; omega⟩
  constructor
  · unfold MV.mulE
    rw [if_pos ⟨hv, hm, hr.symm⟩]
    simp only [MV.mulR, hc, Int.toNat_natCast]
    rfl
  · intro h1 h2
    have hk : ∀ j, j < n → Mat.sum n (fun k => Mat.fm (l.getD k 0) (a.at k j)) = 0 := fun j hj => by
      have h3 := allZ_iff.1 h2 j hj
      have h4 := at_cells (r := 1) (c := n) (f := Mat.mm n (⟨1, n, l⟩ : MV).at a.at) (i := 0) (j := j) (by omega) hj
      have h5 : (⟨1, n, cellsOf n (Mat.mm n (⟨1, n, l⟩ : MV).at a.at) (1 * n)⟩ : MV).at 0 j = (cellsOf n (Mat.mm n (⟨1, n, l⟩ : MV).at a.at) (1 * n)).getD j 0 := by
        unfold MV.at
        simp
      have h7 : Mat.sum n (fun k => Mat.fm (l.getD k 0) (a.at k j)) = Mat.mm n (⟨1, n, l⟩ : MV).at a.at 0 j := Mat.sum_congr fun k hk => by
        have h6 : (⟨1, n, l⟩ : MV).at 0 k = l.getD k 0 := by
          unfold MV.at
          simp
        rw [h6]
      rw [h7, ← h4]
      exact h5.trans h3
    have hne : ∃ i, i < n ∧ l.getD i 0 ≠ 0 := by
      refine Decidable.of_not_not fun h => ?_
      have : allZ l n = true := allZ_iff.2 fun i hi => Decidable.of_not_not fun h0 => h ⟨i, hi, h0⟩
      rw [this] at h1
      cases h1
    have he : ¬ ∃ X, Mat.Inv a.r.toNat a.at X := by
      rw [hr, Int.toNat_natCast]
      rintro ⟨X, hX⟩
      exact Mat.KerL.none (v := fun k => l.getD k 0) ⟨hne, hk⟩ hX.1
    unfold MV.invE
    rw [if_pos ⟨hm, by rw [hr, hc]⟩, dif_neg he]

set_option maxHeartbeats 4000000 in
set_option maxRecDepth 100000 in
theorem matFlat_walk0 (a : MV) (A1 : Option Addr) (k1 : Nat) (A2 : Option Addr) (k2 : Nat) (l : List UInt8) (w : World) (hC : CauchyC w) (hM : MatMulC w) (hI : InverseC w) (ha : a.lies w A1 k1) (hb : Bytes w w.heap.size A2 l.length l) (hl1 : l.length ≤ maxLen) (hl2 : l.length ≤ k2) :
    Calls Try.prog 11 #[a.arg A1 k1, .slice A2 l.length k2] w fun e w' => e = .returned (.bool true) ∧ Below w.heap.size w w' := by
  have G1 := fun W h => great_any a A1 k1 W h
  have M1 := fun W (h : a.lies W A1 k1) => refMay_any a A1 a.l.length k1 W rfl h.2.1
  have I1 := fun W hE h => hI a A1 k1 W hE h
  have P1 := fun (n : Nat) W hE h1 h2 => hM ⟨1, n, l⟩ a A2 A1 k2 k1 W hE h1 h2
  have HF := hide (fun (n : Nat) hm hr hc hl => MV.flat_row (a := a) (l := l) (n := n) hm hr hc hl)
  generalize (a.may && decide (400 < a.l.length)) = ga at *
  have hae : a.arg A1 k1 = .agg #[.int .i64 a.r, .int .i64 a.c, .slice A1 a.l.length k1] := rfl
  rw [hae] at G1 I1 P1 ⊢
  clear hae hI hM
  have hE := (extNew w (.cells #[.int .i64 a.r, .int .i64 a.c, .slice A1 a.l.length k1] 24))
  have hWa := (Whole.new w 24 #[.int .i64 a.r, .int .i64 a.c, .slice A1 a.l.length k1])
  go_enter Try.func11, Try.ntmps11
  go_wp2_with fail
  refine (alive5_any hC hE).mono ?_
  rintro e w1 ⟨rfl, hE1⟩
  have k1' := hE.trans hE1
  have hWa1 := hWa.ext hE1
  go_wp2_with (refine wpList_load_row rfl 24 (.tmp 2) rfl _ rfl _ _ _ _ hWa1 Try.underlying24 rfl mat_info ?_)
  refine (G1 w1 (ha.ext k1')).mono ?_
  rintro e w2 ⟨rfl, hE2⟩
  have k2' := k1'.trans hE2
  have hWa2 := hWa1.ext hE2
  have d0 := hWa2.at 0 rfl
  have d1 := hWa2.at 1 rfl
  have d2 := hWa2.at 2 rfl
  clear G1 hWa hWa1
  cases ga
  case true =>
    go_wp2
    go_ret
    exact ⟨rfl, k2'⟩
  go_wp2_with fail
  refine (M1 w2 (ha.ext k2')).mono ?_
  rintro e w3 ⟨rfl, hE3⟩
  have k3' := k2'.trans hE3
  have hWa3 := hWa2.ext hE3
  have r0 := hWa3.at 0 rfl
  have r1 := hWa3.at 1 rfl
  clear d0 d1 d2 M1 hWa2
  by_cases hm : a.may = true
  case neg =>
    rw [Bool.not_eq_true] at hm
    go_wp2
    go_ret
    exact ⟨rfl, k3'⟩
  by_cases hrc : a.r = a.c
  case neg =>
    have hrc' : (a.r != a.c) = true := by simpa using hrc
    clear hrc
    go_wp2
    go_ret
    exact ⟨rfl, k3'⟩
  by_cases hlr : (l.length : Int) = a.r
  case neg =>
    have hlr' : ((l.length : Int) != a.r) = true := by simpa using hlr
    have hrc' : (a.r != a.c) = false := by simpa using hrc
    clear hrc hlr
    go_wp2
    go_ret
    exact ⟨rfl, k3'⟩
  obtain ⟨n, hn⟩ := Int.eq_ofNat_of_zero_le (MV.may_iff.1 hm).1
  have hn255 := (MV.may_iff.1 hm).2.1
  have hln : l.length = n := by omega
  obtain ⟨hf1, hf2⟩ := HF.out n hm hn (by rw [← hrc, hn]) hln
  have PP := P1 n
  have hve : (⟨1, n, l⟩ : MV).arg A2 k2 = .agg #[.int .i64 1, .int .i64 n, .slice A2 l.length k2] := rfl
  rw [hf1, hve] at PP
  have hpl := cellsOf_len n (Mat.mm n (⟨1, n, l⟩ : MV).at a.at) (1 * n)
  rw [Nat.one_mul] at hpl hf2 PP
  generalize cellsOf n (Mat.mm n (⟨1, n, l⟩ : MV).at a.at) n = pl at *
  clear P1 HF hf1 hve
  generalize a.invE = iv at *
  rw [hm]
  obtain ⟨r, c, la⟩ := a
  dsimp only at *
  subst hrc
  subst hn
  subst hln
  have hll : ((l.length : Int) != (l.length : Int)) = false := by simp
  have HF2 := hide hf2
  have HPL := hide hpl
  have hN := extNew w3 (.cells #[.int .i64 1, .int .i64 l.length, .slice A2 l.length k2] 24)
  have hWv := Whole.new w3 24 #[.int .i64 1, .int .i64 l.length, .slice A2 l.length k2]
  have hWa4 := hWa3.ext hN
  have k4' := k3'.trans hN
  clear hf2 hpl hm hlr
  go_wp2_with (first
    | (refine wpList_load_row rfl 24 (.tmp 5) rfl _ rfl _ _ _ _ hWv Try.underlying24 rfl mat_info ?_)
    | (refine wpList_load_row rfl 24 (.tmp 2) rfl _ rfl _ _ _ _ hWa4 Try.underlying24 rfl mat_info ?_))
  refine (PP _ k4' ⟨k4'.bytes hb, hl1, hl2⟩ (ha.ext k4')).mono ?_
  rintro e w5 ⟨v, rfl, hO5, hE5⟩
  obtain ⟨A5, n5, c5, rfl, hc5, _, hB5⟩ := hO5.form'
  have hn5 := hB5.1
  subst hn5
  have hA5 := Whole.new w5 24 #[.int .i64 0, .int .i64 0, .slice none 0 0]
  have k5' := k4'.trans hE5
  have hWa5 := hWa4.ext hE5
  dsimp only [matV]
  obtain ⟨gp, hgp⟩ : ∃ gp, gp = w5.heap.size := ⟨_, rfl⟩
  have HG := hide hgp
  clear PP hWv hWa4 hWa3 hN r0 r1 hO5 k4' k3' k2' k1' hE1 hE2 hE3 hgp
  go_wp2_with (refine wpList_storeW rfl 24 (.tmp 6) (.tmp 44) rfl rfl rfl hA5 rfl mat_info (mat_one rfl) ?_; intro w6 hW6 hG6 hS6; have hE6 := Ext.put hG6; have hWa6 := hWa5.ext hE6; have k6' := k5'.trans hE6; clear hS6)
  have hB6 := hE6.bytes hB5
  rw [← HG.out] at hW6 ⊢
  clear hWa5 k5' hA5 hG6 hB5 hE5 HG
  go_loopw [8, 9, 10] (fun z e i wq => ∃ j : Nat, j ≤ l.length ∧ i = .int .i64 (j : Int) ∧ z = .bool (allZ pl j) ∧ e = .bool (allZ l j) ∧ Ext w6 wq) (fun _ _ i _ => l.length - (intOf i).toNat)
  case atStart => exact ⟨0, by omega, rfl, rfl, rfl, Ext.refl _⟩
  case round =>
    obtain ⟨j, hj, rfl, rfl, rfl, hE7⟩ := hrel
    by_cases hlt : j < l.length
    · rcases (k6'.bytes hb).2 with h0 | ⟨b1, o1, rfl, hb1, hc1⟩
      · omega
      rcases hB6.2 with h0 | ⟨b2, o2, rfl, hb2, hc2⟩
      · have := HPL.out; omega
      have x1 := (hE7.cell (i := o1 + j) hb1).trans (hc1 j hlt)
      have x2 := (hE7.cell (i := o2 + j) hb2).trans (hc2 j (by have := HPL.out; omega))
      have p2 := (hW6.ext hE7).at 2 rfl
      have H1 := allZ_succ l j
      have H2 := allZ_succ pl j
      rw [← u8_beq] at H1 H2
      obtain ⟨e1, he1⟩ : ∃ e1, (((l.getD j 0).toNat : Int) == 0) = e1 := ⟨_, rfl⟩
      obtain ⟨e2, he2⟩ : ∃ e2, (((pl.getD j 0).toNat : Int) == 0) = e2 := ⟨_, rfl⟩
      rw [he1] at H1
      rw [he2] at H2
      have hj0 : (0 : Int) ≤ (j : Int) := by omega
      have hj1 : (j : Int) < (l.length : Int) := by omega
      have hj2 : (j : Int) < (pl.length : Int) := by have := HPL.out; omega
      generalize l.getD j 0 = x at *
      generalize pl.getD j 0 = y at *
      generalize allZ l j = t1 at *
      generalize allZ pl j = t2 at *
      have K1 := hide H1
      have K2 := hide H2
      clear H1 H2 hc1 hc2 hb hB6
      cases t1 <;> cases t2 <;> cases e1 <;> cases e2
      all_goals go_wp2_with fail
      all_goals go_roundw
      all_goals first
        | exact ⟨j + 1, by omega, by go_num, by rw [K2.out]; rfl, by rw [K1.out]; rfl, hE7⟩
        | (simp [intOf]; omega)
    · obtain rfl : l.length = j := by omega
      have hWa7 := hWa6.ext hE7
      have k7' := k6'.trans hE7
      by_cases hz1 : allZ l l.length = true
      · rw [hz1]
        go_wp2_with fail
        go_ret
        exact ⟨rfl, k7'⟩
      · rw [Bool.not_eq_true] at hz1
        by_cases hz2 : allZ pl l.length = true
        · have hiv := HF2.out hz1 hz2
          have I2 := I1 wr k7' (ha.ext k7')
          rw [hiv] at I2
          rw [hz1, hz2]
          clear hiv hz1 hz2 I1
          go_wp2_with (refine wpList_load_row rfl 24 (.tmp 2) rfl _ rfl _ _ _ _ hWa7 Try.underlying24 rfl mat_info ?_)
          refine I2.mono ?_
          rintro e w8 ⟨v, rfl, hO8, hE8⟩
          obtain ⟨A8, n8, c8, rfl, _, hn8, hB8⟩ := hO8.form'
          have hA8 := Whole.new w8 24 #[.int .i64 0, .int .i64 0, .slice none 0 0]
          have k8' := k7'.trans hE8
          dsimp only [matV, MV.zero]
          go_wp2_with (refine wpList_storeW rfl 24 (.tmp 11) (.tmp 79) rfl rfl rfl hA8 rfl mat_info (mat_one rfl) ?_; intro w9 hW9 hG9 hS9; have hE9 := Ext.put hG9; have f0 := hW9.at 0 rfl; have f1 := hW9.at 1 rfl; have f2 := hW9.at 2 rfl; clear hS9)
          refine (refSame_any 0 0 0 0 A8 none n8 0 c8 0 [] [] w9 (hE9.bytes hB8) (Bytes.none _ _ _)).mono ?_
          rintro e w10 ⟨rfl, hE10⟩
          go_wp2
          go_ret
          exact ⟨ret_bool (by simp), (k8'.trans hE9).trans hE10⟩
        · rw [Bool.not_eq_true] at hz2
          rw [hz1, hz2]
          go_wp2_with fail
          go_ret
          exact ⟨rfl, k7'⟩
end Go.Proofs.Ytedkajpodepkiaa
