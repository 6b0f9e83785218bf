/- SetsTurns under the program's contracts. -/
import Derived.Test.YtfkmcknkapplmaaSetLaw3
namespace Go.Proofs.Ytfkmcknkapplmaa
open Go.RowKit Sets

theorem Sets.rest_good {bound : Int} {l : List Int} (h : (restE bound l).2 = 0) : (0 ≤ bound ∧ bound ≤ 20000) ∧ restE bound l = (restL bound.toNat l, 0) ∧ ∀ y, y ∈ l → y < ((bound.toNat : Nat) : Int) := by
  by_cases hc : (0 ≤ bound ∧ bound ≤ 20000) ∧ ok l = true ∧ (l.all fun y => decide (y < bound)) = true
  · refine ⟨hc.1, by unfold restE; rw [if_pos hc], fun y hy => ?_⟩
    have := of_decide_eq_true ((List.all_eq_true.1 hc.2.2) y hy)
    omega
  · have e : restE bound l = ([], 13) := by unfold restE; rw [if_neg hc]
    rw [e] at h
    simp at h
theorem Sets.rest_fine {bound : Int} {l : List Int} (hb : 0 ≤ bound ∧ bound ≤ 20000) (hk : ok l = true) (h : ∀ y, y ∈ l → y < ((bound.toNat : Nat) : Int)) : restE bound l = (restL bound.toNat l, 0) := by
  unfold restE
  rw [if_pos ⟨hb, hk, List.all_eq_true.2 fun y hy => decide_eq_true (by have := h y hy; omega)⟩]

set_option maxHeartbeats 4000000 in
set_option maxRecDepth 10000 in
theorem setsTurns_walk0 (bound : Int) (A1 : Option Addr) (n1 c1 : Nat) (a : List Int) (A2 : Option Addr) (n2 c2 : Nat) (b : List Int) (w : World) (hB : SBothC w) (hA : SAnyC w) (hL : SLessC w) (hR : SRestC w) (hbd : -9223372036854775808 ≤ bound ∧ bound ≤ 9223372036854775807) (hn1 : n1 ≤ c1) (hc1 : c1 ≤ maxLen) (h1 : IntsAt w w.heap.size A1 n1 a) (hn2 : n2 ≤ c2) (hc2 : c2 ≤ maxLen) (h2 : IntsAt w w.heap.size A2 n2 b) :
    Calls Try.prog 9 #[.int .i64 bound, .slice A1 n1 c1, .slice A2 n2 c2] w fun e w' => e = .returned (.bool true) ∧ Ext w w' := by
  have C0 := alive14_any hB (Ext.refl w)
  have hl1 := h1.1
  have hl2 := h2.1
  by_cases hb1 : 300 < n1
  · have hbI : (300 : Int) < (n1 : Int) := by omega
    clear h1 h2 hB hA hL hR hl1 hl2 hbd
    go_enter Try.func9, Try.ntmps9
    go_wp2_with fail
    refine C0.mono ?_
    rintro e w1 ⟨rfl, hE1⟩
    go_wp2
    go_ret
    exact ⟨rfl, hE1⟩
  have hb1I : ¬ (300 : Int) < (n1 : Int) := by omega
  by_cases hb2 : 300 < n2
  · have hbI : (300 : Int) < (n2 : Int) := by omega
    clear h1 h2 hB hA hL hR hl1 hl2 hbd
    go_enter Try.func9, Try.ntmps9
    go_wp2_with fail
    refine C0.mono ?_
    rintro e w1 ⟨rfl, hE1⟩
    go_wp2
    go_ret
    exact ⟨rfl, hE1⟩
  have hb2I : ¬ (300 : Int) < (n2 : Int) := by omega
  subst hl1
  subst hl2
  have H1 := hide h1
  have H2 := hide h2
  have HB := hide hB
  have HA := hide hA
  have HL := hide hL
  have HR := hide hR
  have HBd := hide hbd
  have CM1 := fun W (hE : Ext w W) => refSMay_any A1 a.length c1 a W (H1.out.later hE) (by omega)
  have CM2 := fun W (hE : Ext w W) => refSMay_any A2 b.length c2 b W (H2.out.later hE) (by omega)
  clear h1 h2 hB hA hL hR hbd
  cases ha : ok a with
  | false =>
    rw [ha] at CM1
    clear ha CM2
    go_enter Try.func9, Try.ntmps9
    go_wp2_with fail
    refine C0.mono ?_
    rintro e w1 ⟨rfl, hE1⟩
    have C1 := CM1 w1 hE1
    clear C0 CM1
    go_wp2_with fail
    refine C1.mono ?_
    rintro e w2 ⟨rfl, hQ2⟩
    clear C1
    go_wp2
    go_ret
    exact ⟨rfl, hE1.trans hQ2.ext⟩
  | true =>
  cases hb : ok b with
  | false =>
    rw [ha] at CM1
    rw [hb] at CM2
    clear ha hb
    go_enter Try.func9, Try.ntmps9
    go_wp2_with fail
    refine C0.mono ?_
    rintro e w1 ⟨rfl, hE1⟩
    have C1 := CM1 w1 hE1
    clear C0 CM1
    go_wp2_with fail
    refine C1.mono ?_
    rintro e w2 ⟨rfl, hQ2⟩
    have hF2 := hE1.trans hQ2.ext
    have C2 := CM2 w2 hF2
    clear C1 CM2 hE1 hQ2
    go_wp2_with fail
    refine C2.mono ?_
    rintro e w3 ⟨rfl, hQ3⟩
    clear C2
    go_wp2
    go_ret
    exact ⟨rfl, hF2.trans hQ3.ext⟩
  | true =>
  rw [ha] at CM1
  rw [hb] at CM2
  have E1 := hide (both_two ha hb)
  have E1' := hide (show bothE [b, a] = (bothL [a, b], 0) by rw [both_two hb ha, both_turns hb ha])
  have E2 := hide (any_two ha hb)
  have E2' := hide (show anyE [b, a] = (anyL [a, b], 0) by rw [any_two hb ha, any_turns hb ha])
  have E3 := hide (less_one ha hb)
  have HRest := hide (show (restE bound a).2 = 0 → (restE bound b).2 = 0 → ∃ ra rb y, restE bound a = (ra, 0) ∧ restE bound b = (rb, 0) ∧ ra.length ≤ 20000 ∧ rb.length ≤ 20000 ∧ y.length ≤ 40000 ∧ restE bound (bothL [a, b]) = (y, 0) ∧ anyE [ra, rb] = (y, 0) ∧ bothE [a, rb] = (lessL a [b], 0) from fun e1 e2 => by
    obtain ⟨g1, g2, g3⟩ := rest_good e1
    obtain ⟨g4, g5, g6⟩ := rest_good e2
    have hlen := anyE_len [restL bound.toNat a, restL bound.toNat b] 20000 (two_le (by have := restE_len bound a; rw [g2] at this; exact this) (by have := restE_len bound b; rw [g5] at this; exact this))
    rw [any_two (ok_rest _ _) (ok_rest _ _)] at hlen
    refine ⟨_, _, anyL [restL bound.toNat a, restL bound.toNat b], g2, g5, by have := restE_len bound a; rw [g2] at this; exact this, by have := restE_len bound b; rw [g5] at this; exact this, by simpa using hlen, ?_, any_two (ok_rest _ _) (ok_rest _ _), ?_⟩
    · rw [rest_fine g1 (ok_both2 ha) (fun y hy => g3 y (mem_both2.1 hy).1), rest_both]
    · rw [both_two ha (ok_rest _ _), both_rest ha g3])
  have hcnt := counts ha hb
  have L1 : (bothL [a, b]).length ≤ 600 := by omega
  have L2 : (anyL [a, b]).length ≤ 600 := by omega
  have L3 : (lessL a [b]).length ≤ 600 := by
    have : (lessL a [b]).length ≤ a.length := List.length_filter_le _ _
    omega
  generalize bothL [a, b] = P at *
  generalize anyL [a, b] = Q at *
  generalize lessL a [b] = R at *
  have Hx := hide (And.intro hb1 hb2)
  clear ha hb hcnt hb1 hb2
  go_enter Try.func9, Try.ntmps9
  go_wp2_with fail
  refine C0.mono ?_
  rintro e w1 ⟨rfl, hE1⟩
  have C1 := CM1 w1 hE1
  clear C0 CM1
  go_wp2_with fail
  refine C1.mono ?_
  rintro e w2 ⟨rfl, hQ2⟩
  have hF2 := hE1.trans hQ2.ext
  have C2 := CM2 w2 hF2
  clear C1 CM2 hE1 hQ2
  go_wp2_with fail
  refine C2.mono ?_
  rintro e w3 ⟨rfl, hQ3⟩
  have hF3 := hF2.trans hQ3.ext
  -- p
  have I3 := ilists_two w3 (c1 := c1) (c2 := c2) 22 hn1 hc1 hn2 hc2 (H1.out.later hF3) (H2.out.later hF3)
  have G3 := extNew w3 (.cells #[.slice A1 a.length c1, .slice A2 b.length c2] 22)
  have C3 := HB.out [a, b] _ 2 2 _ (hF3.trans G3) (Nat.le_refl _) (by unfold maxLen; omega) (by omega) (two_le (by have := Hx.out; omega) (by have := Hx.out; omega)) I3
  rw [E1.out] at C3
  have HF3 := hide (hF3.trans G3)
  clear C2 hF2 hQ3 I3 G3 hF3
  go_wp2_with fail
  refine C3.mono ?_
  rintro e w4 ⟨A4, c4, rfl, k4, m4, h4, hE4⟩
  have hF4 := HF3.out.trans hE4
  -- q
  have I4 := ilists_two w4 (c1 := c2) (c2 := c1) 22 hn2 hc2 hn1 hc1 (H2.out.later hF4) (H1.out.later hF4)
  have G4 := extNew w4 (.cells #[.slice A2 b.length c2, .slice A1 a.length c1] 22)
  have C4 := HB.out [b, a] _ 2 2 _ (hF4.trans G4) (Nat.le_refl _) (by unfold maxLen; omega) (by omega) (two_le (by have := Hx.out; omega) (by have := Hx.out; omega)) I4
  rw [E1'.out] at C4
  have HF4 := hide (hF4.trans G4)
  have HP := hide (h4.later G4)
  have KP := hide (And.intro k4 m4)
  clear C3 hE4 I4 G4 hF4 h4 HF3 k4 m4
  dsimp only
  go_wp2_with fail
  refine C4.mono ?_
  rintro e w5 ⟨A5, c5, rfl, -, -, h5, hE5⟩
  have hF5 := HF4.out.trans hE5
  -- u
  have I5 := ilists_two w5 (c1 := c1) (c2 := c2) 22 hn1 hc1 hn2 hc2 (H1.out.later hF5) (H2.out.later hF5)
  have G5 := extNew w5 (.cells #[.slice A1 a.length c1, .slice A2 b.length c2] 22)
  have C5 := HA.out [a, b] _ 2 2 _ (hF5.trans G5) (Nat.le_refl _) (by unfold maxLen; omega) (by omega) (two_le (by have := Hx.out; omega) (by have := Hx.out; omega)) I5
  rw [E2.out] at C5
  have HF5 := hide (hF5.trans G5)
  have HP5 := hide ((HP.out.later hE5).later G5)
  have HP5b := hide (h5.later G5)
  clear C4 hE5 I5 G5 hF5 h5 HF4 HP
  dsimp only
  go_wp2_with fail
  refine C5.mono ?_
  rintro e w6 ⟨A6, c6, rfl, -, -, h6, hE6⟩
  have hF6 := HF5.out.trans hE6
  -- v
  have I6 := ilists_two w6 (c1 := c2) (c2 := c1) 22 hn2 hc2 hn1 hc1 (H2.out.later hF6) (H1.out.later hF6)
  have G6 := extNew w6 (.cells #[.slice A2 b.length c2, .slice A1 a.length c1] 22)
  have C6 := HA.out [b, a] _ 2 2 _ (hF6.trans G6) (Nat.le_refl _) (by unfold maxLen; omega) (by omega) (two_le (by have := Hx.out; omega) (by have := Hx.out; omega)) I6
  rw [E2'.out] at C6
  have HF6 := hide (hF6.trans G6)
  have HP6 := hide ((HP5.out.later hE6).later G6)
  have HP6b := hide ((HP5b.out.later hE6).later G6)
  have HQ6 := hide (h6.later G6)
  clear C5 hE6 I6 G6 hF6 h6 HF5 HP5 HP5b
  dsimp only
  go_wp2_with fail
  refine C6.mono ?_
  rintro e w7 ⟨A7, c7, rfl, -, -, h7, hE7⟩
  have hF7 := HF6.out.trans hE7
  have HP7 := hide (HP6.out.later hE7)
  have CS := refSame9_any A4 A5 c4 c5 P P w7 HP7.out (HP6b.out.later hE7) (by omega)
  rw [decide_eq_true rfl] at CS
  have HQ7 := hide (HQ6.out.later hE7)
  have HQ7b := hide h7
  clear C6 hE7 h7 HF6 HP6 HP6b HQ6
  dsimp only
  go_wp2_with fail
  refine CS.mono ?_
  rintro e w8 ⟨rfl, hE8⟩
  have hF8 := hF7.trans hE8
  have CT := refSame9_any A6 A7 c6 c7 Q Q w8 (HQ7.out.later hE8) (HQ7b.out.later hE8) (by omega)
  rw [decide_eq_true rfl] at CT
  have HP8 := hide (HP7.out.later hE8)
  clear CS hF7 hE8 HP7 HQ7 HQ7b
  go_wp2_with fail
  refine CT.mono ?_
  rintro e w9 ⟨rfl, hE9⟩
  have hF9 := hF8.trans hE9
  have HP9 := hide (HP8.out.later hE9)
  clear CT hF8 hE9 HP8
  -- ra
  have D1 := HR.out bound a A1 a.length c1 w9 hF9 HBd.out hn1 hc1 (by have := Hx.out; omega) (H1.out.later hF9)
  obtain ⟨⟨r1, e1⟩, hr1⟩ : ∃ r, r = restE bound a := ⟨_, rfl⟩
  obtain ⟨⟨r2, e2⟩, hr2⟩ : ∃ r, r = restE bound b := ⟨_, rfl⟩
  have R1 := hide hr1
  have R2 := hide hr2
  rw [← hr1] at D1
  clear hr1 hr2
  unfold MadeS at D1
  dsimp only at D1
  go_wp2_with fail
  refine D1.mono ?_
  rintro e w10 ⟨B1, d1, rfl, k1, m1, i1, hE10⟩
  have hF10 := hF9.trans hE10
  have D2 := HR.out bound b A2 b.length c2 w10 hF10 HBd.out hn2 hc2 (by have := Hx.out; omega) (H2.out.later hF10)
  rw [← R2.out] at D2
  unfold MadeS at D2
  dsimp only at D2
  have HP10 := hide (HP9.out.later hE10)
  have I1 := hide i1
  have KB1 := hide (And.intro k1 m1)
  clear D1 hF9 hE10 HP9 i1 k1 m1
  go_wp2_with fail
  refine D2.mono ?_
  rintro e w11 ⟨B2, d2, rfl, k2, m2, i2, hE11⟩
  have hF11 := hF10.trans hE11
  have HP11 := hide (HP10.out.later hE11)
  have I11 := hide (I1.out.later hE11)
  have J11 := hide i2
  have KB2 := hide (And.intro k2 m2)
  clear D2 hF10 hE11 HP10 I1 i2 k2 m2
  by_cases he1 : e1 = 0
  case neg =>
    have hb : (e1 != 0) = true := by rw [bne_iff_ne]; exact he1
    clear he1 R1 R2 HRest
    go_wp2
    go_ret
    exact ⟨rfl, hF11⟩
  subst he1
  by_cases he2 : e2 = 0
  case neg =>
    have hb : (e2 != 0) = true := by rw [bne_iff_ne]; exact he2
    clear he2 R1 R2 HRest
    go_wp2
    go_ret
    exact ⟨rfl, hF11⟩
  subst he2
  obtain ⟨ra, rb, y, f1, f2, f3, f4, f5, f6, f7, f8⟩ := HRest.out (by rw [← R1.out]) (by rw [← R2.out])
  have q1 := R1.out
  have q2 := R2.out
  rw [f1] at q1
  rw [f2] at q2
  obtain rfl : r1 = ra := by injection q1
  obtain rfl : r2 = rb := by injection q2
  have F7 := hide f7
  have F8 := hide f8
  clear f1 f2 q1 q2 R1 R2 HRest f7 f8
  -- x
  have D3 := HR.out bound P A4 P.length c4 w11 hF11 HBd.out KP.out.1 KP.out.2 (by omega) HP11.out
  rw [f6] at D3
  clear f6
  go_wp2_with fail
  refine D3.mono ?_
  rintro e w12 ⟨X1, x1, rfl, -, -, j1, hE12⟩
  have hF12 := hF11.trans hE12
  -- y
  have I12 := ilists_two w12 (c1 := d1) (c2 := d2) 22 KB1.out.1 KB1.out.2 KB2.out.1 KB2.out.2 (I11.out.later hE12) (J11.out.later hE12)
  have G12 := extNew w12 (.cells #[.slice B1 r1.length d1, .slice B2 r2.length d2] 22)
  have D4 := HA.out [r1, r2] _ 2 2 _ (hF12.trans G12) (Nat.le_refl _) (by unfold maxLen; omega) (by omega) (two_le f3 f4) I12
  rw [F7.out] at D4
  have HF12 := hide (hF12.trans G12)
  have HX12 := hide (j1.later G12)
  have J12 := hide ((J11.out.later hE12).later G12)
  clear D3 hE12 hF12 hF11 I12 G12 j1 J11 I11 HP11
  dsimp only
  go_wp2_with fail
  refine D4.mono ?_
  rintro e w13 ⟨Y1, y1, rfl, -, -, j2, hE13⟩
  have hF13 := HF12.out.trans hE13
  -- z
  have I13 := ilists_two w13 (c1 := c1) (c2 := d2) 22 hn1 hc1 KB2.out.1 KB2.out.2 (H1.out.later hF13) (J12.out.later hE13)
  have G13 := extNew w13 (.cells #[.slice A1 a.length c1, .slice B2 r2.length d2] 22)
  have D5 := HB.out [a, r2] _ 2 2 _ (hF13.trans G13) (Nat.le_refl _) (by unfold maxLen; omega) (by omega) (two_le (by have := Hx.out; omega) f4) I13
  rw [F8.out] at D5
  have HF13 := hide (hF13.trans G13)
  have HX13 := hide ((HX12.out.later hE13).later G13)
  have HY13 := hide (j2.later G13)
  clear D4 hE13 hF13 HF12 I13 G13 j2 J12 HX12
  dsimp only
  go_wp2_with fail
  refine D5.mono ?_
  rintro e w14 ⟨Z1, z1, rfl, -, -, j3, hE14⟩
  have hF14 := HF13.out.trans hE14
  -- w
  have I14 := ilists_one w14 (c1 := c2) 22 hn2 hc2 (H2.out.later hF14)
  have G14 := extNew w14 (.cells #[.slice A2 b.length c2] 22)
  have D6 := HL.out a [b] A1 _ a.length c1 1 1 _ (hF14.trans G14) hn1 hc1 (by have := Hx.out; omega) (H1.out.later (hF14.trans G14)) (Nat.le_refl _) (by unfold maxLen; omega) (by omega) (one_le (by have := Hx.out; omega)) I14
  rw [E3.out] at D6
  have HF14 := hide (hF14.trans G14)
  have HX14 := hide ((HX13.out.later hE14).later G14)
  have HY14 := hide ((HY13.out.later hE14).later G14)
  have HZ14 := hide (j3.later G14)
  clear D5 hE14 hF14 HF13 I14 G14 j3 HX13 HY13
  dsimp only
  go_wp2_with fail
  refine D6.mono ?_
  rintro e w15 ⟨V1, v1, rfl, -, -, j4, hE15⟩
  have hF15 := HF14.out.trans hE15
  have S1 := refSame9_any X1 Y1 x1 y1 y y w15 (HX14.out.later hE15) (HY14.out.later hE15) (by omega)
  rw [decide_eq_true rfl] at S1
  have HZ15 := hide (HZ14.out.later hE15)
  have HV15 := hide j4
  clear D6 hE15 HF14 HX14 HY14 HZ14 j4
  dsimp only
  go_wp2_with fail
  refine S1.mono ?_
  rintro e w16 ⟨rfl, hE16⟩
  have S2 := refSame9_any Z1 V1 z1 v1 R R w16 (HZ15.out.later hE16) (HV15.out.later hE16) (by omega)
  rw [decide_eq_true rfl] at S2
  have hF16 := hF15.trans hE16
  clear S1 hF15 hE16 HZ15 HV15
  go_wp2_with fail
  refine S2.mono ?_
  rintro e w17 ⟨rfl, hE17⟩
  clear S2
  go_wp2
  go_ret
  exact ⟨rfl, hF16.trans hE17⟩
end Go.Proofs.Ytfkmcknkapplmaa
