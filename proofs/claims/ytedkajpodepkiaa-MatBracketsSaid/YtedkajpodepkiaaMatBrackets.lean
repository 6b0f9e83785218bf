/- The law MatBrackets. -/
import Derived.Test.YtedkajpodepkiaaMatInverts
namespace Go.Proofs.Ytedkajpodepkiaa
open Go.RowKit

theorem mulR_form {a b : MV} {ar ac bc : Nat} (a1 : a.r = ar) (a2 : a.c = ac) (b2 : b.c = bc) : a.mulR b = ⟨ar, bc, cellsOf bc (Mat.mm ac a.at b.at) (ar * bc)⟩ := by
  unfold MV.mulR
  rw [a1, a2, b2]
  simp
theorem MV.nat {a : MV} (h : a.may = true) : ∃ r c : Nat, a.r = r ∧ a.c = c ∧ a.l.length = r * c ∧ r ≤ 255 ∧ c ≤ 255 := by
  obtain ⟨q1, q2, q3, q4, q5⟩ := MV.may_iff.1 h
  obtain ⟨r, hr⟩ := Int.eq_ofNat_of_zero_le q1
  obtain ⟨c, hc⟩ := Int.eq_ofNat_of_zero_le q3
  refine ⟨r, c, hr, hc, ?_, by omega, by omega⟩
  rw [hr, hc, ← Int.natCast_mul] at q5
  omega
theorem cells_have {r c : Nat} {f g : Mat.M} (h : ∀ i j, i < r → j < c → f i j = g i j) : cellsOf c f (r * c) = cellsOf c g (r * c) := by
  refine cells_congr fun i hi => ?_
  have hc : 0 < c := by
    rcases Nat.eq_zero_or_pos c with h0 | h0
    · rw [h0] at hi; simp at hi
    · exact h0
  exact h _ _ (Nat.div_lt_of_lt_mul (by rw [Nat.mul_comm]; exact hi)) (Nat.mod_lt _ hc)
theorem MV.mul_assoc {a b c : MV} (ha : a.may = true) (hb : b.may = true) (hc : c.may = true) (h1 : a.c = b.r) (h2 : b.c = c.r) : a.mulR (b.mulR c) = (a.mulR b).mulR c := by
  obtain ⟨ar, ac, a1, a2, _⟩ := MV.nat ha
  obtain ⟨br, bc, b1, b2, _⟩ := MV.nat hb
  obtain ⟨cr, cc, c1, c2, _⟩ := MV.nat hc
  obtain rfl : ac = br := by omega
  obtain rfl : bc = cr := by omega
  rw [mulR_form b1 b2 c2, mulR_form a1 a2 b2, mulR_form (b := ⟨ac, cc, _⟩) (bc := cc) a1 a2 rfl, mulR_form (a := ⟨ar, bc, _⟩) (ar := ar) (ac := bc) rfl rfl c2]
  rw [cells_have (r := ar) fun i j hi hj => ?_]
  have e1 : Mat.mm ac a.at (⟨ac, cc, cellsOf cc (Mat.mm bc b.at c.at) (ac * cc)⟩ : MV).at i j = Mat.mm ac a.at (Mat.mm bc b.at c.at) i j := Mat.mm_congr (fun _ _ => rfl) (fun k hk => at_cells hk hj)
  have e2 : Mat.mm bc (⟨ar, bc, cellsOf bc (Mat.mm ac a.at b.at) (ar * bc)⟩ : MV).at c.at i j = Mat.mm bc (Mat.mm ac a.at b.at) c.at i j := Mat.mm_congr (fun k hk => at_cells hi hk) (fun _ _ => rfl)
  rw [e1, e2, Mat.mm_assoc]
theorem MV.cells_self {a : MV} {r c : Nat} (hc : a.c = c) (hl : a.l.length = r * c) : cellsOf c a.at (r * c) = a.l := by
  apply List.ext_getElem?
  intro i
  by_cases hi : i < r * c
  · have hdm : i / c * c + i % c = i := by rw [Nat.mul_comm]; exact Nat.div_add_mod i c
    unfold cellsOf MV.at
    rw [hc, Int.toNat_natCast, List.getElem?_map, List.getElem?_range hi, Option.map_some, hdm, List.getElem?_eq_getElem (by omega), List.getD_eq_getElem?_getD, List.getElem?_eq_getElem (by omega)]
    rfl
  · rw [List.getElem?_eq_none (by rw [cellsOf_len]; omega), List.getElem?_eq_none (by omega)]
theorem MV.one_mul {a : MV} {r : Nat} (ha : a.may = true) (hr : a.r = r) : (⟨r, r, cellsOf r Mat.one (r * r)⟩ : MV).mulR a = a := by
  obtain ⟨ar, ac, a1, a2, a3, _⟩ := MV.nat ha
  obtain rfl : r = ar := by omega
  rw [mulR_form (a := ⟨r, r, _⟩) (ar := r) (ac := r) rfl rfl a2]
  rw [cells_have (r := r) (g := a.at) fun i j hi hj => by
    rw [Mat.mm_congr (A' := Mat.one) (B' := a.at) (fun k hk => at_cells hi hk) (fun _ _ => rfl), Mat.one_mm _ _ hi], MV.cells_self a2 a3, ← a1, ← a2]
/-- What the law's calls tell. -/
theorem MV.brackets {a b c : MV} (ha : a.may = true) (hb : b.may = true) (hc : c.may = true) (h1 : a.c = b.r) (h2 : b.c = c.r) :
    ∃ X Y Z, a.mulE b = (X, 0) ∧ X.mulE c = (Y, 0) ∧ b.mulE c = (Z, 0) ∧ a.mulE Z = (Y, 0) ∧ (identityE a.r).1.mulE a = (a, 0) ∧ X.l.length ≤ maxLen ∧ Z.l.length ≤ maxLen ∧ (identityE a.r).1.l.length ≤ maxLen := by
  have hX := MV.mulR_may ha hb
  have hZ := MV.mulR_may hb hc
  obtain ⟨r, _, a1, _, _, hr, _⟩ := MV.nat ha
  have hI := square_may Mat.one hr
  refine ⟨a.mulR b, (a.mulR b).mulR c, b.mulR c, ?_, ?_, ?_, ?_, ?_, MV.may_len hX, MV.may_len hZ, ?_⟩
  · unfold MV.mulE; rw [if_pos ⟨ha, hb, h1⟩]
  · unfold MV.mulE; rw [if_pos ⟨hX, hc, h2⟩]
  · unfold MV.mulE; rw [if_pos ⟨hb, hc, h2⟩]
  · unfold MV.mulE; rw [if_pos ⟨ha, hZ, h1⟩, MV.mul_assoc ha hb hc h1 h2]
  · rw [a1, identity_nat hr]
    unfold MV.mulE
    rw [if_pos ⟨hI, ha, a1.symm⟩, MV.one_mul ha a1]
  · rw [a1, identity_nat hr]
    exact MV.may_len hI

set_option maxHeartbeats 8000000 in
set_option maxRecDepth 100000 in
theorem matBrackets_walk0 (a b c : MV) (A1 A2 A3 : Option Addr) (k1 k2 k3 : Nat) (w : World) (hC : CauchyC w) (hM : MatMulC w) (hD : IdentityC w) (ha : a.lies w A1 k1) (hb : b.lies w A2 k2) (hc : c.lies w A3 k3) :
    Calls Try.prog 8 #[a.arg A1 k1, b.arg A2 k2, c.arg A3 k3] w fun e w' => e = .returned (.bool true) ∧ Below w.heap.size w w' := by
  have G1 := fun W h => great_any a A1 k1 W h
  have G2 := fun W h => great_any b A2 k2 W h
  have G3 := fun W h => great_any c A3 k3 W h
  have M1 := fun W (h : a.lies W A1 k1) => refMay_any a A1 a.l.length k1 W rfl h.2.1
  have M2 := fun W (h : b.lies W A2 k2) => refMay_any b A2 b.l.length k2 W rfl h.2.1
  have M3 := fun W (h : c.lies W A3 k3) => refMay_any c A3 c.l.length k3 W rfl h.2.1
  have HB := hide (fun ha hb hc h1 h2 => MV.brackets (a := a) (b := b) (c := c) ha hb hc h1 h2)
  have PM := hM
  generalize (a.may && decide (400 < a.l.length)) = ga at *
  generalize (b.may && decide (400 < b.l.length)) = gb at *
  generalize (c.may && decide (400 < c.l.length)) = gc at *
  have hae : a.arg A1 k1 = .agg #[.int .i64 a.r, .int .i64 a.c, .slice A1 a.l.length k1] := rfl
  have hbe : b.arg A2 k2 = .agg #[.int .i64 b.r, .int .i64 b.c, .slice A2 b.l.length k2] := rfl
  have hce : c.arg A3 k3 = .agg #[.int .i64 c.r, .int .i64 c.c, .slice A3 c.l.length k3] := rfl
  rw [hae] at G1 ⊢
  rw [hbe] at G2 ⊢
  rw [hce] at G3 ⊢
  have hE0 := extNew w (.cells #[.int .i64 a.r, .int .i64 a.c, .slice A1 a.l.length k1] 24)
  have hE1 := extNew (w.alloc (.cells #[.int .i64 a.r, .int .i64 a.c, .slice A1 a.l.length k1] 24)) (.cells #[.int .i64 b.r, .int .i64 b.c, .slice A2 b.l.length k2] 24)
  have hE2 := extNew ((w.alloc (.cells #[.int .i64 a.r, .int .i64 a.c, .slice A1 a.l.length k1] 24)).alloc (.cells #[.int .i64 b.r, .int .i64 b.c, .slice A2 b.l.length k2] 24)) (.cells #[.int .i64 c.r, .int .i64 c.c, .slice A3 c.l.length k3] 24)
  have hWa := ((Whole.new w 24 #[.int .i64 a.r, .int .i64 a.c, .slice A1 a.l.length k1]).ext hE1).ext hE2
  have hWb := (Whole.new (w.alloc (.cells #[.int .i64 a.r, .int .i64 a.c, .slice A1 a.l.length k1] 24)) 24 #[.int .i64 b.r, .int .i64 b.c, .slice A2 b.l.length k2]).ext hE2
  have hWc := Whole.new ((w.alloc (.cells #[.int .i64 a.r, .int .i64 a.c, .slice A1 a.l.length k1] 24)).alloc (.cells #[.int .i64 b.r, .int .i64 b.c, .slice A2 b.l.length k2] 24)) 24 #[.int .i64 c.r, .int .i64 c.c, .slice A3 c.l.length k3]
  have hE := (hE0.trans hE1).trans hE2
  rw [World.size_alloc] at hWb
  rw [World.size_alloc, World.size_alloc] at hWc
  clear hE0 hE1 hE2 hM
  go_enter Try.func8, Try.ntmps8
  go_wp2_with fail
  refine (alive5_any hC hE).mono ?_
  rintro e w1 ⟨rfl, hE1⟩
  have q1 := hE.trans hE1
  have hWa1 := hWa.ext hE1
  have hWb1 := hWb.ext hE1
  have hWc1 := hWc.ext hE1
  clear hWa hWb hWc hC hE hE1
  go_wp2_with (refine wpList_load_row rfl 24 (.tmp 3) rfl _ rfl _ _ _ _ hWa1 Try.underlying24 rfl mat_info ?_)
  refine (G1 w1 (ha.ext q1)).mono ?_
  rintro e w2 ⟨rfl, hE2⟩
  have q2 := q1.trans hE2
  have hWa2 := hWa1.ext hE2
  have hWb2 := hWb1.ext hE2
  have hWc2 := hWc1.ext hE2
  clear hWa1 hWb1 hWc1 hE2 G1
  have b0 := hWb2.at 0 rfl
  have b1 := hWb2.at 1 rfl
  have b2 := hWb2.at 2 rfl
  cases ga
  case true =>
    go_wp2
    go_ret
    exact ⟨rfl, q2⟩
  go_wp2_with fail
  refine (G2 w2 (hb.ext q2)).mono ?_
  rintro e w3 ⟨rfl, hE3⟩
  have q3 := q2.trans hE3
  have hWa3 := hWa2.ext hE3
  have hWb3 := hWb2.ext hE3
  have hWc3 := hWc2.ext hE3
  clear hWa2 hWb2 hWc2 hE3 G2 b0 b1 b2
  have c0 := hWc3.at 0 rfl
  have c1 := hWc3.at 1 rfl
  have c2 := hWc3.at 2 rfl
  cases gb
  case true =>
    go_wp2
    go_ret
    exact ⟨rfl, q3⟩
  go_wp2_with fail
  refine (G3 w3 (hc.ext q3)).mono ?_
  rintro e w4 ⟨rfl, hE4⟩
  have q4 := q3.trans hE4
  have hWa4 := hWa3.ext hE4
  have hWb4 := hWb3.ext hE4
  have hWc4 := hWc3.ext hE4
  clear hWa3 hWb3 hWc3 hE4 G3 c0 c1 c2
  have a0 := hWa4.at 0 rfl
  have a1 := hWa4.at 1 rfl
  have a2 := hWa4.at 2 rfl
  cases gc
  case true =>
    go_wp2
    go_ret
    exact ⟨rfl, q4⟩
  go_wp2_with fail
  refine (M1 w4 (ha.ext q4)).mono ?_
  rintro e w5 ⟨rfl, hE5⟩
  have q5 := q4.trans hE5
  have hWa5 := hWa4.ext hE5
  have hWb5 := hWb4.ext hE5
  have hWc5 := hWc4.ext hE5
  clear hWa4 hWb4 hWc4 hE5 M1 a0 a1 a2
  have b0 := hWb5.at 0 rfl
  have b1 := hWb5.at 1 rfl
  have b2 := hWb5.at 2 rfl
  by_cases hma : a.may = true
  case neg =>
    rw [Bool.not_eq_true] at hma
    rw [hma]
    clear hma
    go_wp2
    go_ret
    exact ⟨rfl, q5⟩
  rw [hma]
  have HMA := hide hma
  clear hma
  go_wp2_with fail
  refine (M2 w5 (hb.ext q5)).mono ?_
  rintro e w6 ⟨rfl, hE6⟩
  have q6 := q5.trans hE6
  have hWa6 := hWa5.ext hE6
  have hWb6 := hWb5.ext hE6
  have hWc6 := hWc5.ext hE6
  clear hWa5 hWb5 hWc5 hE6 M2 b0 b1 b2
  have c0 := hWc6.at 0 rfl
  have c1 := hWc6.at 1 rfl
  have c2 := hWc6.at 2 rfl
  by_cases hmb : b.may = true
  case neg =>
    rw [Bool.not_eq_true] at hmb
    rw [hmb]
    clear hmb
    go_wp2
    go_ret
    exact ⟨rfl, q6⟩
  rw [hmb]
  have HMB := hide hmb
  clear hmb
  go_wp2_with fail
  refine (M3 w6 (hc.ext q6)).mono ?_
  rintro e w7 ⟨rfl, hE7⟩
  have q7 := q6.trans hE7
  have hWa7 := hWa6.ext hE7
  have hWb7 := hWb6.ext hE7
  have hWc7 := hWc6.ext hE7
  clear hWa6 hWb6 hWc6 hE7 M3 c0 c1 c2
  have a0 := hWa7.at 0 rfl
  have a1 := hWa7.at 1 rfl
  have a2 := hWa7.at 2 rfl
  have b0 := hWb7.at 0 rfl
  have b1 := hWb7.at 1 rfl
  have b2 := hWb7.at 2 rfl
  have c0 := hWc7.at 0 rfl
  have c1 := hWc7.at 1 rfl
  have c2 := hWc7.at 2 rfl
  by_cases hmc : c.may = true
  case neg =>
    rw [Bool.not_eq_true] at hmc
    rw [hmc]
    clear hmc
    go_wp2
    go_ret
    exact ⟨rfl, q7⟩
  rw [hmc]
  have HMC := hide hmc
  clear hmc
  by_cases h1 : a.c = b.r
  case neg =>
    have h1' : (a.c != b.r) = true := by simpa using h1
    clear h1
    go_wp2
    go_ret
    exact ⟨rfl, q7⟩
  have h1' : (a.c != b.r) = false := by simpa using h1
  by_cases h2 : b.c = c.r
  case neg =>
    have h2' : (b.c != c.r) = true := by simpa using h2
    clear h1 h2
    go_wp2
    go_ret
    exact ⟨rfl, q7⟩
  have h2' : (b.c != c.r) = false := by simpa using h2
  obtain ⟨X, Y, Z, p1, p2, p3, p4, p5, l1, l2, l3⟩ := HB.out HMA.out HMB.out HMC.out h1 h2
  clear h1 h2 HB HMA HMB HMC
  by_cases h3 : (20 : Int) < a.r
  case pos =>
    go_wp2
    go_ret
    exact ⟨rfl, q7⟩
  by_cases h4 : (20 : Int) < c.c
  case pos =>
    go_wp2
    go_ret
    exact ⟨rfl, q7⟩
  have P1 := PM a b A1 A2 k1 k2 w7 q7 (ha.ext q7) (hb.ext q7)
  rw [p1, hae, hbe] at P1
  have HI := hide (hD a.r)
  have HP := hide PM
  have HX := hide (And.intro p2 (And.intro p3 (And.intro p4 p5)))
  have HL := hide (And.intro l1 (And.intro l2 l3))
  clear p1 p2 p3 p4 p5 l1 l2 l3 hD PM a2 b2 c2
  go_wp2_with (first
    | (refine wpList_load_row rfl 24 (.tmp 3) rfl _ rfl _ _ _ _ hWa7 Try.underlying24 rfl mat_info ?_)
    | (refine wpList_load_row rfl 24 (.tmp 4) rfl _ rfl _ _ _ _ hWb7 Try.underlying24 rfl mat_info ?_))
  refine P1.mono ?_
  rintro e w8 ⟨v, rfl, hO8, hE8⟩
  obtain ⟨AX, nX, cX, rfl, hcX, _, hBX⟩ := hO8.form'
  have hnX := hBX.1
  subst hnX
  have hA8 := Whole.new w8 24 #[.int .i64 0, .int .i64 0, .slice none 0 0]
  have q8 := q7.trans hE8
  have hWa8 := hWa7.ext hE8
  have hWb8 := hWb7.ext hE8
  have hWc8 := hWc7.ext hE8
  dsimp only [matV]
  clear hO8 a0 a1 b0 b1 c0 c1 hWa7 hWb7 hWc7  P1
  go_wp2_with (first
    | (refine wpList_storeW rfl 24 (.tmp 7) (.tmp 74) rfl rfl rfl hA8 rfl mat_info (mat_one rfl) ?_; intro w9 hWX9 hG9 hS9; have hE9 := Ext.put hG9; have q9 := q8.trans hE9; have hWa9 := hWa8.ext hE9; have hWb9 := hWb8.ext hE9; have hWc9 := hWc8.ext hE9; have a0 := hWa9.at 0 rfl; have a1 := hWa9.at 1 rfl; have b0 := hWb9.at 0 rfl; have b1 := hWb9.at 1 rfl; have c0 := hWc9.at 0 rfl; have c1 := hWc9.at 1 rfl; clear hS9)
    | (refine wpList_load_row rfl 24 (.tmp 7) rfl _ rfl _ _ _ _ hWX9 Try.underlying24 rfl mat_info ?_))
  have hBX9 := hE9.bytes hBX
  clear hA8 hG9 hBX  hWa8 hWb8 hWc8 hE8 hE9
  refine (great_any X AX cX w9 ⟨hBX9, HL.out.1, hcX⟩).mono ?_
  rintro e w10 ⟨rfl, hE10⟩
  have q10 := q9.trans hE10
  have hWX10 := hWX9.ext hE10
  have hWa10 := hWa9.ext hE10
  have hWb10 := hWb9.ext hE10
  have hWc10 := hWc9.ext hE10
  have hBX10 := hE10.bytes hBX9
  clear a0 a1 b0 b1 c0 c1 hWX9 hWa9 hWb9 hWc9 hBX9 hE10
  have a0 := hWa10.at 0 rfl
  have a1 := hWa10.at 1 rfl
  have b0 := hWb10.at 0 rfl
  have b1 := hWb10.at 1 rfl
  have c0 := hWc10.at 0 rfl
  have c1 := hWc10.at 1 rfl
  generalize (X.may && decide (400 < X.l.length)) = gx
  cases gx
  case true =>
    go_wp2
    go_ret
    exact ⟨rfl, q10⟩
  have P2 := HP.out X c AX A3 cX k3 w10 q10 ⟨hBX10, HL.out.1, hcX⟩ (hc.ext q10)
  rw [HX.out.1, hce] at P2
  have hxe : X.arg AX cX = .agg #[.int .i64 X.r, .int .i64 X.c, .slice AX X.l.length cX] := rfl
  rw [hxe] at P2
  go_wp2_with (first
    | (refine wpList_load_row rfl 24 (.tmp 7) rfl _ rfl _ _ _ _ hWX10 Try.underlying24 rfl mat_info ?_)
    | (refine wpList_load_row rfl 24 (.tmp 5) rfl _ rfl _ _ _ _ hWc10 Try.underlying24 rfl mat_info ?_))
  refine P2.mono ?_
  rintro e w11 ⟨v, rfl, hO11, hE11⟩
  obtain ⟨AY, nY, cY, rfl, hcY, _, hBY⟩ := hO11.form'
  have hnY := hBY.1
  subst hnY
  have hA11 := Whole.new w11 24 #[.int .i64 0, .int .i64 0, .slice none 0 0]
  have q11 := q10.trans hE11
  have hWX11 := hWX10.ext hE11
  have hWa11 := hWa10.ext hE11
  have hWb11 := hWb10.ext hE11
  have hWc11 := hWc10.ext hE11
  have hBX11 := hE11.bytes hBX10
  dsimp only [matV]
  clear hO11 a0 a1 b0 b1 c0 c1 hWX10 hWa10 hWb10 hWc10 hBX10 P2 hxe
  go_wp2_with (first
    | (refine wpList_storeW rfl 24 (.tmp 9) (.tmp 82) rfl rfl rfl hA11 rfl mat_info (mat_one rfl) ?_; intro w12 hWY12 hG12 hS12; have hE12 := Ext.put hG12; have q12 := q11.trans hE12; have hWX12 := hWX11.ext hE12; have hWa12 := hWa11.ext hE12; have hWb12 := hWb11.ext hE12; have hWc12 := hWc11.ext hE12; have a0 := hWa12.at 0 rfl; have a1 := hWa12.at 1 rfl; have b0 := hWb12.at 0 rfl; have b1 := hWb12.at 1 rfl; have c0 := hWc12.at 0 rfl; have c1 := hWc12.at 1 rfl; clear hS12)
    | (refine wpList_load_row rfl 24 (.tmp 4) rfl _ rfl _ _ _ _ hWb12 Try.underlying24 rfl mat_info ?_)
    | (refine wpList_load_row rfl 24 (.tmp 5) rfl _ rfl _ _ _ _ hWc12 Try.underlying24 rfl mat_info ?_))
  have hBY12 := hE12.bytes hBY
  have hBX12 := hE12.bytes hBX11
  clear hA11 hG12 hBY hBX11 hWX11 hWa11 hWb11 hWc11 hE11 hE12
  have P3 := HP.out b c A2 A3 k2 k3 w12 q12 (hb.ext q12) (hc.ext q12)
  rw [HX.out.2.1, hbe, hce] at P3
  refine P3.mono ?_
  rintro e w13 ⟨v, rfl, hO13, hE13⟩
  obtain ⟨AZ, nZ, cZ, rfl, hcZ, _, hBZ⟩ := hO13.form'
  have hnZ := hBZ.1
  subst hnZ
  have hA13 := Whole.new w13 24 #[.int .i64 0, .int .i64 0, .slice none 0 0]
  have q13 := q12.trans hE13
  have hWX13 := hWX12.ext hE13
  have hWY13 := hWY12.ext hE13
  have hWa13 := hWa12.ext hE13
  have hWb13 := hWb12.ext hE13
  have hWc13 := hWc12.ext hE13
  have hBX13 := hE13.bytes hBX12
  have hBY13 := hE13.bytes hBY12
  dsimp only [matV]
  clear hO13 a0 a1 b0 b1 c0 c1 hWX12 hWY12 hWa12 hWb12 hWc12 hBX12 hBY12 P3
  go_wp2_with (first
    | (refine wpList_storeW rfl 24 (.tmp 11) (.tmp 88) rfl rfl rfl hA13 rfl mat_info (mat_one rfl) ?_; intro w14 hWZ14 hG14 hS14; have hE14 := Ext.put hG14; have q14 := q13.trans hE14; have hWX14 := hWX13.ext hE14; have hWY14 := hWY13.ext hE14; have hWa14 := hWa13.ext hE14; have hWb14 := hWb13.ext hE14; have hWc14 := hWc13.ext hE14; have a0 := hWa14.at 0 rfl; have a1 := hWa14.at 1 rfl; have b0 := hWb14.at 0 rfl; have b1 := hWb14.at 1 rfl; have c0 := hWc14.at 0 rfl; have c1 := hWc14.at 1 rfl; clear hS14)
    | (refine wpList_load_row rfl 24 (.tmp 11) rfl _ rfl _ _ _ _ hWZ14 Try.underlying24 rfl mat_info ?_))
  have hBZ14 := hE14.bytes hBZ
  have hBX14 := hE14.bytes hBX13
  have hBY14 := hE14.bytes hBY13
  clear hA13 hG14 hBZ hBX13 hBY13 hWX13 hWY13 hWa13 hWb13 hWc13 hE13 hE14
  refine (great_any Z AZ cZ w14 ⟨hBZ14, HL.out.2.1, hcZ⟩).mono ?_
  rintro e w15 ⟨rfl, hE15⟩
  have q15 := q14.trans hE15
  have hWX15 := hWX14.ext hE15
  have hWY15 := hWY14.ext hE15
  have hWZ15 := hWZ14.ext hE15
  have hWa15 := hWa14.ext hE15
  have hWb15 := hWb14.ext hE15
  have hWc15 := hWc14.ext hE15
  have hBX15 := hE15.bytes hBX14
  have hBY15 := hE15.bytes hBY14
  have hBZ15 := hE15.bytes hBZ14
  clear a0 a1 b0 b1 c0 c1 hWX14 hWY14 hWZ14 hWa14 hWb14 hWc14 hBX14 hBY14 hBZ14 hE15
  have a0 := hWa15.at 0 rfl
  have a1 := hWa15.at 1 rfl
  have b0 := hWb15.at 0 rfl
  have b1 := hWb15.at 1 rfl
  have c0 := hWc15.at 0 rfl
  have c1 := hWc15.at 1 rfl
  generalize (Z.may && decide (400 < Z.l.length)) = gz
  cases gz
  case true =>
    go_wp2
    go_ret
    exact ⟨rfl, q15⟩
  have P4 := HP.out a Z A1 AZ k1 cZ w15 q15 (ha.ext q15) ⟨hBZ15, HL.out.2.1, hcZ⟩
  rw [HX.out.2.2.1, hae] at P4
  have hze : Z.arg AZ cZ = .agg #[.int .i64 Z.r, .int .i64 Z.c, .slice AZ Z.l.length cZ] := rfl
  rw [hze] at P4
  go_wp2_with (first
    | (refine wpList_load_row rfl 24 (.tmp 3) rfl _ rfl _ _ _ _ hWa15 Try.underlying24 rfl mat_info ?_)
    | (refine wpList_load_row rfl 24 (.tmp 11) rfl _ rfl _ _ _ _ hWZ15 Try.underlying24 rfl mat_info ?_))
  refine P4.mono ?_
  rintro e w16 ⟨v, rfl, hO16, hE16⟩
  obtain ⟨AV, nV, cV, rfl, hcV, _, hBV⟩ := hO16.form'
  have hnV := hBV.1
  subst hnV
  have hA16 := Whole.new w16 24 #[.int .i64 0, .int .i64 0, .slice none 0 0]
  have q16 := q15.trans hE16
  have hWX16 := hWX15.ext hE16
  have hWY16 := hWY15.ext hE16
  have hWZ16 := hWZ15.ext hE16
  have hWa16 := hWa15.ext hE16
  have hWb16 := hWb15.ext hE16
  have hWc16 := hWc15.ext hE16
  have hBX16 := hE16.bytes hBX15
  have hBY16 := hE16.bytes hBY15
  have hBZ16 := hE16.bytes hBZ15
  dsimp only [matV]
  clear hO16 a0 a1 b0 b1 c0 c1 hWX15 hWY15 hWZ15 hWa15 hWb15 hWc15 hBX15 hBY15 hBZ15 P4 hze
  go_wp2_with (first
    | (refine wpList_storeW rfl 24 (.tmp 13) (.tmp 96) rfl rfl rfl hA16 rfl mat_info (mat_one rfl) ?_; intro w17 hWV17 hG17 hS17; have hE17 := Ext.put hG17; have q17 := q16.trans hE17; have hWX17 := hWX16.ext hE17; have hWY17 := hWY16.ext hE17; have hWZ17 := hWZ16.ext hE17; have hWa17 := hWa16.ext hE17; have hWb17 := hWb16.ext hE17; have hWc17 := hWc16.ext hE17; have a0 := hWa17.at 0 rfl; have a1 := hWa17.at 1 rfl; have b0 := hWb17.at 0 rfl; have b1 := hWb17.at 1 rfl; have c0 := hWc17.at 0 rfl; have c1 := hWc17.at 1 rfl; clear hS17))
  have hBV17 := hE17.bytes hBV
  have hBX17 := hE17.bytes hBX16
  have hBY17 := hE17.bytes hBY16
  have hBZ17 := hE17.bytes hBZ16
  clear hA16 hG17 hBV hBX16 hBY16 hBZ16 hWX16 hWY16 hWZ16 hWa16 hWb16 hWc16 hE16 hE17
  have D1 := HI.out w17 q17
  generalize (identityE a.r).1 = U at D1 HX HL
  generalize (identityE a.r).2 = eU at D1 HX HL
  refine D1.mono ?_
  rintro e w18 ⟨v, rfl, hO18, hE18⟩
  obtain ⟨AU, nU, cU, rfl, hcU, _, hBU⟩ := hO18.form'
  have hnU := hBU.1
  subst hnU
  have hA18 := Whole.new w18 24 #[.int .i64 0, .int .i64 0, .slice none 0 0]
  have q18 := q17.trans hE18
  have hWX18 := hWX17.ext hE18
  have hWY18 := hWY17.ext hE18
  have hWZ18 := hWZ17.ext hE18
  have hWV18 := hWV17.ext hE18
  have hWa18 := hWa17.ext hE18
  have hWb18 := hWb17.ext hE18
  have hWc18 := hWc17.ext hE18
  have hBX18 := hE18.bytes hBX17
  have hBY18 := hE18.bytes hBY17
  have hBZ18 := hE18.bytes hBZ17
  have hBV18 := hE18.bytes hBV17
  dsimp only [matV]
  clear hO18 a0 a1 b0 b1 c0 c1 hWX17 hWY17 hWZ17 hWV17 hWa17 hWb17 hWc17 hBX17 hBY17 hBZ17 hBV17 D1
  go_wp2_with (first
    | (refine wpList_storeW rfl 24 (.tmp 15) (.tmp 102) rfl rfl rfl hA18 rfl mat_info (mat_one rfl) ?_; intro w19 hWU19 hG19 hS19; have hE19 := Ext.put hG19; have q19 := q18.trans hE19; have hWX19 := hWX18.ext hE19; have hWY19 := hWY18.ext hE19; have hWZ19 := hWZ18.ext hE19; have hWV19 := hWV18.ext hE19; have hWa19 := hWa18.ext hE19; have hWb19 := hWb18.ext hE19; have hWc19 := hWc18.ext hE19; have a0 := hWa19.at 0 rfl; have a1 := hWa19.at 1 rfl; have b0 := hWb19.at 0 rfl; have b1 := hWb19.at 1 rfl; have c0 := hWc19.at 0 rfl; have c1 := hWc19.at 1 rfl; clear hS19)
    | (refine wpList_load_row rfl 24 (.tmp 15) rfl _ rfl _ _ _ _ hWU19 Try.underlying24 rfl mat_info ?_)
    | (refine wpList_load_row rfl 24 (.tmp 3) rfl _ rfl _ _ _ _ hWa19 Try.underlying24 rfl mat_info ?_))
  have hBU19 := hE19.bytes hBU
  have hBX19 := hE19.bytes hBX18
  have hBY19 := hE19.bytes hBY18
  have hBZ19 := hE19.bytes hBZ18
  have hBV19 := hE19.bytes hBV18
  clear hA18 hG19 hBU hBX18 hBY18 hBZ18 hBV18 hWX18 hWY18 hWZ18 hWV18 hWa18 hWb18 hWc18 hE18 hE19
  have P5 := HP.out U a AU A1 cU k1 w19 q19 ⟨hBU19, HL.out.2.2, hcU⟩ (ha.ext q19)
  rw [HX.out.2.2.2, hae] at P5
  have hue : U.arg AU cU = .agg #[.int .i64 U.r, .int .i64 U.c, .slice AU U.l.length cU] := rfl
  rw [hue] at P5
  refine P5.mono ?_
  rintro e w20 ⟨v, rfl, hO20, hE20⟩
  obtain ⟨AT, nT, cT, rfl, hcT, _, hBT⟩ := hO20.form'
  have hnT := hBT.1
  subst hnT
  have hA20 := Whole.new w20 24 #[.int .i64 0, .int .i64 0, .slice none 0 0]
  have q20 := q19.trans hE20
  have hWX20 := hWX19.ext hE20
  have hWY20 := hWY19.ext hE20
  have hWZ20 := hWZ19.ext hE20
  have hWV20 := hWV19.ext hE20
  have hWU20 := hWU19.ext hE20
  have hWa20 := hWa19.ext hE20
  have hWb20 := hWb19.ext hE20
  have hWc20 := hWc19.ext hE20
  have hBX20 := hE20.bytes hBX19
  have hBY20 := hE20.bytes hBY19
  have hBZ20 := hE20.bytes hBZ19
  have hBV20 := hE20.bytes hBV19
  have hBU20 := hE20.bytes hBU19
  dsimp only [matV]
  clear hO20 a0 a1 b0 b1 c0 c1 hWX19 hWY19 hWZ19 hWV19 hWU19 hWa19 hWb19 hWc19 hBX19 hBY19 hBZ19 hBV19 hBU19 P5 hue
  go_wp2_with (first
    | (refine wpList_storeW rfl 24 (.tmp 17) (.tmp 108) rfl rfl rfl hA20 rfl mat_info (mat_one rfl) ?_; intro w21 hWT21 hG21 hS21; have hE21 := Ext.put hG21; have q21 := q20.trans hE21; have hWX21 := hWX20.ext hE21; have hWY21 := hWY20.ext hE21; have hWZ21 := hWZ20.ext hE21; have hWV21 := hWV20.ext hE21; have hWU21 := hWU20.ext hE21; have hWa21 := hWa20.ext hE21; have hWb21 := hWb20.ext hE21; have hWc21 := hWc20.ext hE21; have a0 := hWa21.at 0 rfl; have a1 := hWa21.at 1 rfl; have b0 := hWb21.at 0 rfl; have b1 := hWb21.at 1 rfl; have c0 := hWc21.at 0 rfl; have c1 := hWc21.at 1 rfl; clear hS21; have y0 := hWY21.at 0 rfl; have y1 := hWY21.at 1 rfl; have y2 := hWY21.at 2 rfl; have v0 := hWV21.at 0 rfl; have v1 := hWV21.at 1 rfl; have v2 := hWV21.at 2 rfl))
  have hBT21 := hE21.bytes hBT
  have hBX21 := hE21.bytes hBX20
  have hBY21 := hE21.bytes hBY20
  have hBZ21 := hE21.bytes hBZ20
  have hBV21 := hE21.bytes hBV20
  have hBU21 := hE21.bytes hBU20
  clear hA20 hG21 hBT hBX20 hBY20 hBZ20 hBV20 hBU20 hWX20 hWY20 hWZ20 hWV20 hWU20 hWa20 hWb20 hWc20 hE20 hE21
  have S1 := refSame_any Y.r Y.c Y.r Y.c AY AV Y.l.length Y.l.length cY cV Y.l Y.l w21 hBY21 hBV21
  simp only [and_self, decide_true] at S1
  refine S1.mono ?_
  rintro e w22 ⟨rfl, hE22⟩
  have hWT22 := hWT21.ext hE22
  have hWa22 := hWa21.ext hE22
  clear a0 a1 b0 b1 c0 c1 y0 y1 y2 v0 v1 v2
  have t0 := hWT22.at 0 rfl
  have t1 := hWT22.at 1 rfl
  have t2 := hWT22.at 2 rfl
  have a0 := hWa22.at 0 rfl
  have a1 := hWa22.at 1 rfl
  have a2 := hWa22.at 2 rfl
  go_wp2_with fail
  have S2 := refSame_any a.r a.c a.r a.c AT A1 a.l.length a.l.length cT k1 a.l a.l w22 (hE22.bytes hBT21) ((q21.trans hE22).bytes ha.1)
  simp only [and_self, decide_true] at S2
  refine S2.mono ?_
  rintro e w23 ⟨rfl, hE23⟩
  go_wp2
  go_ret
  exact ⟨rfl, (q21.trans hE22).trans hE23⟩
end Go.Proofs.Ytedkajpodepkiaa
