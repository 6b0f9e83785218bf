/- The law MatTurns. -/
import Derived.Test.YtedkajpodepkiaaMatMuls
import Derived.Test.YtedkajpodepkiaaMatInv
namespace Go.Proofs.Ytedkajpodepkiaa
open Go.RowKit

/-- From world w on, the program's Inverse tells what an inverse is. -/
def InverseC (w : World) : Prop := ∀ (m : MV) (A : Option Addr) (k : Nat) (W : World), Ext w W → m.lies W A k → Calls Try.prog 29 #[m.arg A k] W (MadeM W m.invE.1 m.invE.2)
set_option maxHeartbeats 4000000 in
set_option maxRecDepth 100000 in
theorem matTurns_walk0 (a b : MV) (A1 A2 : Option Addr) (k1 k2 : Nat) (w : World) (hC : CauchyC w) (hM : MatMulC w) (hI : InverseC w) (ha : a.lies w A1 k1) (hb : b.lies w A2 k2) :
    Calls Try.prog 12 #[a.arg A1 k1, b.arg A2 k2] w fun e w' => e = .returned (.bool true) ∧ Below w.heap.size w w' := by
  have G1 := fun W h => great_any a A1 k1 W h
  have G2 := fun W h => great_any b A2 k2 W h
  have I1 := fun W hE h => hI a A1 k1 W hE h
  have I2 := fun W hE h => hI b A2 k2 W hE h
  have P := fun W hE h1 h2 => hM a b A1 A2 k1 k2 W hE h1 h2
  have T : a.invE.2 = 0 → b.invE.2 = 0 → a.r = b.r → (a.mulE b).1.invE = ((b.invE.1.mulE a.invE.1).1, 0) ∧ (a.mulE b).1.l.length ≤ maxLen ∧ b.invE.1.l.length ≤ maxLen ∧ a.invE.1.l.length ≤ maxLen := by
    intro h1 h2 h3
    obtain ⟨t1, t2, t3, t4, t5, t6, t7⟩ := MV.invE_turn h1 h2 h3
    have e1 : a.mulE b = (a.mulR b, 0) := by unfold MV.mulE; rw [if_pos ⟨t2, t3, t4⟩]
    have e2 : b.invE.1.mulE a.invE.1 = (b.invE.1.mulR a.invE.1, 0) := by unfold MV.mulE; rw [if_pos ⟨t5, t6, t7⟩]
    rw [e1, e2]
    exact ⟨t1, MV.may_len (MV.mulR_may t2 t3), MV.may_len t5, MV.may_len t6⟩
  have HT := hide T
  clear T
  generalize (a.may && decide (400 < a.l.length)) = ga at *
  generalize (b.may && decide (400 < b.l.length)) = gb at *
  generalize (a.mulE b).1 = p at *
  generalize (a.mulE b).2 = ep at *
  generalize a.invE.1 = xa at *
  generalize a.invE.2 = ea at *
  generalize b.invE.1 = xb at *
  generalize b.invE.2 = eb at *
  have hae : a.arg A1 k1 = .agg #[.int .i64 a.r, .int .i64 a.c, .slice A1 a.l.length k1] := rfl
  have hbe : b.arg A2 k2 = .agg #[.int .i64 b.r, .int .i64 b.c, .slice A2 b.l.length k2] := rfl
  rw [hae] at G1 I1 P ⊢
  rw [hbe] at G2 I2 P ⊢
  clear hae hbe
  have hE0 := (extNew w (.cells #[.int .i64 a.r, .int .i64 a.c, .slice A1 a.l.length k1] 24))
  have hE1 := (extNew (w.alloc (.cells #[.int .i64 a.r, .int .i64 a.c, .slice A1 a.l.length k1] 24)) (.cells #[.int .i64 b.r, .int .i64 b.c, .slice A2 b.l.length k2] 24))
  have hWa := (Whole.new w 24 #[.int .i64 a.r, .int .i64 a.c, .slice A1 a.l.length k1]).ext hE1
  have hWb := Whole.new (w.alloc (.cells #[.int .i64 a.r, .int .i64 a.c, .slice A1 a.l.length k1] 24)) 24 #[.int .i64 b.r, .int .i64 b.c, .slice A2 b.l.length k2]
  have hE := hE0.trans hE1
  rw [World.size_alloc] at hWb
  clear hE0 hE1
  go_enter Try.func12, Try.ntmps12
  go_wp2_with fail
  refine (alive5_any hC hE).mono ?_
  rintro e w1 ⟨rfl, hE1⟩
  have k1' := hE.trans hE1
  have hWa1 := hWa.ext hE1
  have hWb1 := hWb.ext hE1
  go_wp2_with (refine wpList_load_row rfl 24 (.tmp 2) rfl _ rfl _ _ _ _ hWa1 Try.underlying24 rfl mat_info ?_)
  refine (G1 w1 (ha.ext k1')).mono ?_
  rintro e w2 ⟨rfl, hE2⟩
  have k2' := k1'.trans hE2
  have hWb2 := hWb1.ext hE2
  have hWa2 := hWa1.ext hE2
  cases ga
  case true =>
    go_wp2
    go_ret
    exact ⟨rfl, k2'⟩
  have d0 := hWb2.at 0 rfl
  have d1 := hWb2.at 1 rfl
  have d2 := hWb2.at 2 rfl
  go_wp2_with fail
  refine (G2 w2 (hb.ext k2')).mono ?_
  rintro e w3 ⟨rfl, hE3⟩
  have k3' := k2'.trans hE3
  have hWb3 := hWb2.ext hE3
  have hWa3 := hWa2.ext hE3
  clear d0 d1 d2
  cases gb
  case true =>
    go_wp2
    go_ret
    exact ⟨rfl, k3'⟩
  go_wp2_with (refine wpList_load_row rfl 24 (.tmp 2) rfl _ rfl _ _ _ _ hWa3 Try.underlying24 rfl mat_info ?_)
  refine (I1 w3 k3' (ha.ext k3')).mono ?_
  rintro e w4 ⟨v, rfl, hO, hE4⟩
  obtain ⟨A, n, c, rfl, hcc1, _, hB⟩ := hO.form'
  have hA := Whole.new w4 24 #[.int .i64 0, .int .i64 0, .slice none 0 0]
  have k4' := k3'.trans hE4
  have hWb4 := hWb3.ext hE4
  have hWa4 := hWa3.ext hE4
  dsimp only [matV]
  go_wp2_with (first
    | (refine wpList_storeW rfl 24 (.tmp 5) (.tmp 26) rfl rfl rfl hA rfl mat_info (mat_one rfl) ?_; intro w5 hW5 hG5 _; have hE5 := Ext.put hG5; have hWa5 := hWa4.ext hE5; have hWb5 := hWb4.ext hE5; have k5' := k4'.trans hE5)
    | (refine wpList_load_row rfl 24 (.tmp 3) rfl _ rfl _ _ _ _ hWb5 Try.underlying24 rfl mat_info ?_))
  refine (I2 w5 k5' (hb.ext k5')).mono ?_
  rintro e w6 ⟨v, rfl, hO2, hE6⟩
  obtain ⟨A', n', c', rfl, hcc2, _, hB'⟩ := hO2.form'
  have hA6 := Whole.new w6 24 #[.int .i64 0, .int .i64 0, .slice none 0 0]
  have hW6 := hW5.ext hE6
  have hWa6 := hWa5.ext hE6
  have hWb6 := hWb5.ext hE6
  have k6' := k5'.trans hE6
  have hB6 := (hE5.trans hE6).bytes hB
  dsimp only [matV]
  clear hWa hWb hWa1 hWb1 hWa2 hWb2 hWa3 hWb3 hWa4 hWb4 hWa5 hWb5 G1 G2 I1 I2 hA hE1 hE2 hE3 hE4 hG5 hB hO
  by_cases hea : ea = 0
  case neg =>
    have hea' : (ea != 0) = true := by simpa using hea
    have HEA := hide hea
    clear hea
    go_wp2_with (refine wpList_storeW rfl 24 (.tmp 7) (.tmp 31) rfl rfl rfl hA6 rfl mat_info (mat_one rfl) ?_; intro w7 hW7 hG7 _; have hE7 := Ext.put hG7; have hWa7 := hWa6.ext hE7; have hWb7 := hWb6.ext hE7; have r0 := hWa7.at 0 rfl; have r1 := hWb7.at 0 rfl)
    go_ret
    exact ⟨rfl, k6'.trans hE7⟩
  by_cases heb : eb = 0
  case neg =>
    have heb' : (eb != 0) = true := by simpa using heb
    have HEB := hide heb
    subst hea
    clear heb
    go_wp2_with (refine wpList_storeW rfl 24 (.tmp 7) (.tmp 31) rfl rfl rfl hA6 rfl mat_info (mat_one rfl) ?_; intro w7 hW7 hG7 _; have hE7 := Ext.put hG7; have hWa7 := hWa6.ext hE7; have hWb7 := hWb6.ext hE7; have r0 := hWa7.at 0 rfl; have r1 := hWb7.at 0 rfl)
    go_ret
    exact ⟨rfl, k6'.trans hE7⟩
  by_cases hrr : a.r = b.r
  case neg =>
    have hrr' : (a.r != b.r) = true := by simpa using hrr
    have HRR := hide hrr
    subst hea
    subst heb
    clear hrr
    go_wp2_with (refine wpList_storeW rfl 24 (.tmp 7) (.tmp 31) rfl rfl rfl hA6 rfl mat_info (mat_one rfl) ?_; intro w7 hW7 hG7 _; have hE7 := Ext.put hG7; have hWa7 := hWa6.ext hE7; have hWb7 := hWb6.ext hE7; have r0 := hWa7.at 0 rfl; have r1 := hWb7.at 0 rfl)
    go_ret
    exact ⟨rfl, k6'.trans hE7⟩
  obtain ⟨t1, t2, t3, t4⟩ := HT.out hea heb hrr
  subst hea
  subst heb
  have hn := hB6.1
  have hn' := hB'.1
  subst hn
  subst hn'
  have hrr' : (a.r != b.r) = false := by simpa using hrr
  have HR := hide t1
  clear hrr t1 HT
  go_wp2_with (first
    | (refine wpList_storeW rfl 24 (.tmp 7) (.tmp 31) rfl rfl rfl hA6 rfl mat_info (mat_one rfl) ?_; intro w7 hW7 hG7 _; have hE7 := Ext.put hG7; have hWa7 := hWa6.ext hE7; have hWb7 := hWb6.ext hE7; have r0 := hWa7.at 0 rfl; have r1 := hWb7.at 0 rfl; have k7' := k6'.trans hE7; have hW67 := hW6.ext hE7)
    | (refine wpList_load_row rfl 24 (.tmp 2) rfl _ rfl _ _ _ _ hWa7 Try.underlying24 rfl mat_info ?_)
    | (refine wpList_load_row rfl 24 (.tmp 3) rfl _ rfl _ _ _ _ hWb7 Try.underlying24 rfl mat_info ?_))
  refine (P w7 k7' (ha.ext k7') (hb.ext k7')).mono ?_
  rintro e w8 ⟨v, rfl, hO8, hE8⟩
  obtain ⟨A8, n8, c8, rfl, hcc8, _, hB8⟩ := hO8.form'
  have hn8 := hB8.1
  subst hn8
  have hA8 := Whole.new w8 24 #[.int .i64 0, .int .i64 0, .slice none 0 0]
  have k8' := k7'.trans hE8
  have hW58 := hW67.ext hE8
  have hW78 := hW7.ext hE8
  have hE78 := hE7.trans hE8
  dsimp only [matV]
  clear hWa6 hWb6 hWa7 hWb7 r0 r1 hO8
  go_wp2_with (first
    | (refine wpList_storeW rfl 24 (.tmp 9) (.tmp 50) rfl rfl rfl hA8 rfl mat_info (mat_one rfl) ?_; intro w9 hW9 hG9 _; have hE9 := Ext.put hG9; have hW59 := hW58.ext hE9; have hW79 := hW78.ext hE9; have k9' := k8'.trans hE9; have hE79 := hE78.trans hE9)
    | (refine wpList_load_row rfl 24 (.tmp 7) rfl _ rfl _ _ _ _ hW79 Try.underlying24 rfl mat_info ?_)
    | (refine wpList_load_row rfl 24 (.tmp 5) rfl _ rfl _ _ _ _ hW59 Try.underlying24 rfl mat_info ?_))
  refine (hM xb xa A' A c' c w9 k9' ⟨hE79.bytes hB', t3, hcc2⟩ ⟨hE79.bytes hB6, t4, hcc1⟩).mono ?_
  rintro e w10 ⟨v, rfl, hO10, hE10⟩
  obtain ⟨A10, n10, c10, rfl, _, _, hB10⟩ := hO10.form'
  have hA10 := Whole.new w10 24 #[.int .i64 0, .int .i64 0, .slice none 0 0]
  have hW910 := hW9.ext hE10
  have k10' := k9'.trans hE10
  generalize (xb.mulE xa).2 = eq at *
  dsimp only [matV]
  clear hW58 hW78 hW59 hW79 hO10
  go_wp2_with (first
    | (refine wpList_storeW rfl 24 (.tmp 11) (.tmp 56) rfl rfl rfl hA10 rfl mat_info (mat_one rfl) ?_; intro w11 hW11 hG11 _; have hE11 := Ext.put hG11; have hW911 := hW910.ext hE11; have k11' := k10'.trans hE11)
    | (refine wpList_load_row rfl 24 (.tmp 9) rfl _ rfl _ _ _ _ hW911 Try.underlying24 rfl mat_info ?_))
  have I3 := hI p A8 c8 w11 k11' ⟨((hE9.trans hE10).trans hE11).bytes hB8, t2, hcc8⟩
  rw [HR.out] at I3
  refine I3.mono ?_
  rintro e w12 ⟨v, rfl, hO12, hE12⟩
  obtain ⟨A12, n12, c12, rfl, _, _, hB12⟩ := hO12.form'
  have hA12 := Whole.new w12 24 #[.int .i64 0, .int .i64 0, .slice none 0 0]
  have hW1112 := hW11.ext hE12
  have k12' := k11'.trans hE12
  dsimp only [matV]
  clear hW910 hW911 hO12 I3
  go_wp2_with (refine wpList_storeW rfl 24 (.tmp 13) (.tmp 61) rfl rfl rfl hA12 rfl mat_info (mat_one rfl) ?_; intro w13 hW13 hG13 _; have hE13 := Ext.put hG13; have hW1113 := hW1112.ext hE13; have f0 := hW1113.at 0 rfl; have f1 := hW1113.at 1 rfl; have f2 := hW1113.at 2 rfl; have g0 := hW13.at 0 rfl; have g1 := hW13.at 1 rfl; have g2 := hW13.at 2 rfl)
  generalize (xb.mulE xa).1 = z at *
  refine (refSame_any z.r z.c z.r z.c A12 A10 n12 n10 c12 c10 z.l z.l w13 (hE13.bytes hB12) (((hE11.trans hE12).trans hE13).bytes hB10)).mono ?_
  rintro e w14 ⟨rfl, hE14⟩
  go_wp2
  go_ret
  exact ⟨ret_bool (by simp), (k12'.trans hE13).trans hE14⟩
end Go.Proofs.Ytedkajpodepkiaa
