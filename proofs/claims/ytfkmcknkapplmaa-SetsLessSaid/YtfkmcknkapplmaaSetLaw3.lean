/- SetsHas under the program's contracts. -/
import Derived.Test.YtfkmcknkapplmaaSetLaw2
namespace Go.Proofs.Ytfkmcknkapplmaa
open Go.RowKit Sets

theorem Sets.has_both {a b : List Int} (x : Int) : has (bothL [a, b]) x = (has a x && has b x) := by
  rw [Bool.eq_iff_iff, Bool.and_eq_true, has_iff, has_iff, has_iff, mem_both2]
theorem Sets.has_any {a b : List Int} (ha : ok a = true) (hb : ok b = true) (x : Int) : has (anyL [a, b]) x = (has a x || has b x) := by
  rw [Bool.eq_iff_iff, Bool.or_eq_true, has_iff, has_iff, has_iff, mem_any2 ha hb]
theorem Sets.has_less {a b : List Int} (x : Int) : has (lessL a [b]) x = (has a x && !(has b x)) := by
  rw [Bool.eq_iff_iff, Bool.and_eq_true, has_iff, has_iff, mem_less1, Bool.not_eq_true', ← Bool.not_eq_true, has_iff]
theorem Sets.both_two {a b : List Int} (ha : ok a = true) (hb : ok b = true) : bothE [a, b] = (bothL [a, b], 0) := by unfold bothE; rw [all2 ha hb, if_neg (by simp)]
theorem Sets.any_two {a b : List Int} (ha : ok a = true) (hb : ok b = true) : anyE [a, b] = (anyL [a, b], 0) := by unfold anyE; rw [all2 ha hb, if_neg (by simp)]
theorem Sets.less_one {a b : List Int} (ha : ok a = true) (hb : ok b = true) : lessE a [b] = (lessL a [b], 0) := by unfold lessE; rw [ha, all1 hb, if_neg (by simp)]
theorem two_le {a b : List Int} {m : Nat} (h1 : a.length ≤ m) (h2 : b.length ≤ m) : ∀ l, l ∈ [a, b] → l.length ≤ m := by
  intro l hl
  simp only [List.mem_cons, List.not_mem_nil, or_false] at hl
  rcases hl with rfl | rfl
  · exact h1
  · exact h2
theorem one_le {a : List Int} {m : Nat} (h1 : a.length ≤ m) : ∀ l, l ∈ [a] → l.length ≤ m := by
  intro l hl
  simp only [List.mem_cons, List.not_mem_nil, or_false] at hl
  subst hl
  exact h1

set_option maxHeartbeats 4000000 in
set_option maxRecDepth 10000 in
theorem setsHas_walk0 (A1 : Option Addr) (n1 c1 : Nat) (a : List Int) (A2 : Option Addr) (n2 c2 : Nat) (b : List Int) (x : Int) (w : World) (hB : SBothC w) (hA : SAnyC w) (hL : SLessC w) (hM : SMayC w) (hn1 : n1 ≤ c1) (hc1 : c1 ≤ maxLen) (h1 : IntsAt w w.heap.size A1 n1 a) (hn2 : n2 ≤ c2) (hc2 : c2 ≤ maxLen) (h2 : IntsAt w w.heap.size A2 n2 b) :
    Calls Try.prog 8 #[.slice A1 n1 c1, .slice A2 n2 c2, .int .i64 x] w fun e w' => e = .returned (.bool true) ∧ Ext w w' := by
  have C0 := alive14_any hB (Ext.refl w)
  have hl1 := h1.1
  have hl2 := h2.1
  by_cases hb1 : 300 < n1
  · have hbI : (300 : Int) < (n1 : Int) := by omega
    clear h1 h2 hB hA hL hM hl1 hl2
    go_enter Try.func8, Try.ntmps8
    go_wp2_with fail
    refine C0.mono ?_
    rintro e w1 ⟨rfl, hE1⟩
    go_wp2
    go_ret
    exact ⟨rfl, hE1⟩
  have hb1I : ¬ (300 : Int) < (n1 : Int) := by omega
  by_cases hb2 : 300 < n2
  · have hbI : (300 : Int) < (n2 : Int) := by omega
    clear h1 h2 hB hA hL hM hl1 hl2
    go_enter Try.func8, Try.ntmps8
    go_wp2_with fail
    refine C0.mono ?_
    rintro e w1 ⟨rfl, hE1⟩
    go_wp2
    go_ret
    exact ⟨rfl, hE1⟩
  have hb2I : ¬ (300 : Int) < (n2 : Int) := by omega
  subst hl1
  subst hl2
  have H1 := hide h1
  have H2 := hide h2
  have HB := hide hB
  have HA := hide hA
  have HL := hide hL
  have HM := hide hM
  have CM1 := fun W (hE : Ext w W) => refSMay_any A1 a.length c1 a W (H1.out.later hE) (by omega)
  have CM2 := fun W (hE : Ext w W) => refSMay_any A2 b.length c2 b W (H2.out.later hE) (by omega)
  clear h1 h2 hB hA hL hM
  cases ha : ok a with
  | false =>
    rw [ha] at CM1
    clear ha CM2
    go_enter Try.func8, Try.ntmps8
    go_wp2_with fail
    refine C0.mono ?_
    rintro e w1 ⟨rfl, hE1⟩
    have C1 := CM1 w1 hE1
    clear C0 CM1
    go_wp2_with fail
    refine C1.mono ?_
    rintro e w2 ⟨rfl, hQ2⟩
    clear C1
    go_wp2
    go_ret
    exact ⟨rfl, hE1.trans hQ2.ext⟩
  | true =>
  cases hb : ok b with
  | false =>
    rw [ha] at CM1
    rw [hb] at CM2
    clear ha hb
    go_enter Try.func8, Try.ntmps8
    go_wp2_with fail
    refine C0.mono ?_
    rintro e w1 ⟨rfl, hE1⟩
    have C1 := CM1 w1 hE1
    clear C0 CM1
    go_wp2_with fail
    refine C1.mono ?_
    rintro e w2 ⟨rfl, hQ2⟩
    have hF2 := hE1.trans hQ2.ext
    have C2 := CM2 w2 hF2
    clear C1 CM2 hE1 hQ2
    go_wp2_with fail
    refine C2.mono ?_
    rintro e w3 ⟨rfl, hQ3⟩
    clear C2
    go_wp2
    go_ret
    exact ⟨rfl, hF2.trans hQ3.ext⟩
  | true =>
  rw [ha] at CM1
  rw [hb] at CM2
  have E1 := hide (both_two ha hb)
  have E2 := hide (any_two ha hb)
  have E3 := hide (less_one ha hb)
  have K1 := hide (ok_both2 (b := b) ha)
  have K2 := hide (ok_any (all2 ha hb))
  have K3 := hide (ok_less [b] ha)
  have X1 := hide (has_both (a := a) (b := b) x)
  have X2 := hide (has_any ha hb x)
  have X3 := hide (has_less (a := a) (b := b) x)
  have hcnt := counts ha hb
  have L1 : (bothL [a, b]).length ≤ 600 := by omega
  have L2 : (anyL [a, b]).length ≤ 600 := by omega
  have L3 : (lessL a [b]).length ≤ 600 := by
    have : (lessL a [b]).length ≤ a.length := List.length_filter_le _ _
    omega
  generalize bothL [a, b] = P at *
  generalize anyL [a, b] = Q at *
  generalize lessL a [b] = R at *
  have hcI : (((P.length : Nat) : Int) + ((Q.length : Nat) : Int) == ((a.length : Nat) : Int) + ((b.length : Nat) : Int)) = true := by rw [beq_iff_eq]; omega
  have Hx := hide (And.intro hb1 hb2)
  clear ha hb hcnt hb1 hb2
  go_enter Try.func8, Try.ntmps8
  go_wp2_with fail
  refine C0.mono ?_
  rintro e w1 ⟨rfl, hE1⟩
  have C1 := CM1 w1 hE1
  clear C0 CM1
  go_wp2_with fail
  refine C1.mono ?_
  rintro e w2 ⟨rfl, hQ2⟩
  have hF2 := hE1.trans hQ2.ext
  have C2 := CM2 w2 hF2
  clear C1 CM2 hE1 hQ2
  go_wp2_with fail
  refine C2.mono ?_
  rintro e w3 ⟨rfl, hQ3⟩
  have hF3 := hF2.trans hQ3.ext
  have I3 := ilists_two w3 (c1 := c1) (c2 := c2) 22 hn1 hc1 hn2 hc2 (H1.out.later hF3) (H2.out.later hF3)
  have G3 := extNew w3 (.cells #[.slice A1 a.length c1, .slice A2 b.length c2] 22)
  have C3 := HB.out [a, b] _ 2 2 _ (hF3.trans G3) (Nat.le_refl _) (by unfold maxLen; omega) (by omega) (two_le (by have := Hx.out; omega) (by have := Hx.out; omega)) I3
  rw [E1.out] at C3
  have HF3 := hide (hF3.trans G3)
  clear C2 hF2 hQ3 I3 G3 hF3
  go_wp2_with fail
  refine C3.mono ?_
  rintro e w4 ⟨A4, c4, rfl, k4, m4, h4, hE4⟩
  have hF4 := HF3.out.trans hE4
  have I4 := ilists_two w4 (c1 := c1) (c2 := c2) 22 hn1 hc1 hn2 hc2 (H1.out.later hF4) (H2.out.later hF4)
  have G4 := extNew w4 (.cells #[.slice A1 a.length c1, .slice A2 b.length c2] 22)
  have C4 := HA.out [a, b] _ 2 2 _ (hF4.trans G4) (Nat.le_refl _) (by unfold maxLen; omega) (by omega) (two_le (by have := Hx.out; omega) (by have := Hx.out; omega)) I4
  rw [E2.out] at C4
  have HF4 := hide (hF4.trans G4)
  have HP := hide (h4.later G4)
  have KP := hide (And.intro k4 m4)
  clear C3 hE4 I4 G4 hF4 h4 HF3 k4 m4
  dsimp only
  go_wp2_with fail
  refine C4.mono ?_
  rintro e w5 ⟨A5, c5, rfl, k5, m5, h5, hE5⟩
  have hF5 := HF4.out.trans hE5
  have I5 := ilists_one w5 (c1 := c2) 22 hn2 hc2 (H2.out.later hF5)
  have G5 := extNew w5 (.cells #[.slice A2 b.length c2] 22)
  have C5 := HL.out a [b] A1 _ a.length c1 1 1 _ (hF5.trans G5) hn1 hc1 (by have := Hx.out; omega) (H1.out.later (hF5.trans G5)) (Nat.le_refl _) (by unfold maxLen; omega) (by omega) (one_le (by have := Hx.out; omega)) I5
  rw [E3.out] at C5
  have HF5 := hide (hF5.trans G5)
  have HP5 := hide ((HP.out.later hE5).later G5)
  have HQ := hide (h5.later G5)
  have KQ := hide (And.intro k5 m5)
  clear C4 hE5 I5 G5 hF5 h5 HF4 HP k5 m5
  dsimp only
  go_wp2_with fail
  refine C5.mono ?_
  rintro e w6 ⟨A6, c6, rfl, k6, m6, h6, hE6⟩
  have hF6 := HF5.out.trans hE6
  have HP6 := hide (HP5.out.later hE6)
  have HQ6 := hide (HQ.out.later hE6)
  have HR6 := hide h6
  have KR := hide (And.intro k6 m6)
  have C6 := refSHas_any A1 a.length c1 a x w6 (H1.out.later hF6) (by have := Hx.out; omega)
  have C7 := refSHas_any A2 b.length c2 b x w6 (H2.out.later hF6) (by have := Hx.out; omega)
  have HF6 := hide hF6
  clear C5 hE6 hF6 h6 HF5 HP5 HQ k6 m6
  dsimp only
  generalize has a x = u at *
  generalize has b x = v at *
  go_wp2_with fail
  refine C6.mono ?_
  rintro e w7 ⟨rfl, rfl⟩
  clear C6
  go_wp2_with fail
  refine C7.mono ?_
  rintro e w7 ⟨rfl, rfl⟩
  clear C7
  have D1 := HM.out P A4 P.length c4 w6 HF6.out KP.out.1 KP.out.2 (by omega) HP6.out
  rw [K1.out] at D1
  go_wp2_with fail
  refine D1.mono ?_
  rintro e w7 ⟨rfl, hE7⟩
  have hF7 := HF6.out.trans hE7
  have D2 := HM.out Q A5 Q.length c5 w7 hF7 KQ.out.1 KQ.out.2 (by omega) (HQ6.out.later hE7)
  rw [K2.out] at D2
  clear D1
  go_wp2_with fail
  refine D2.mono ?_
  rintro e w8 ⟨rfl, hE8⟩
  have hF8 := hF7.trans hE8
  have hE68 := hE7.trans hE8
  have D3 := HM.out R A6 R.length c6 w8 hF8 KR.out.1 KR.out.2 (by omega) (HR6.out.later hE68)
  rw [K3.out] at D3
  clear D2 hF7 hE7 hE8
  go_wp2_with fail
  refine D3.mono ?_
  rintro e w9 ⟨rfl, hE9⟩
  have hF9 := hF8.trans hE9
  have hE69 := hE68.trans hE9
  have D4 := refSHas_any A4 P.length c4 P x w9 (HP6.out.later hE69) (by omega)
  have D5 := refSHas_any A5 Q.length c5 Q x w9 (HQ6.out.later hE69) (by omega)
  have D6 := refSHas_any A6 R.length c6 R x w9 (HR6.out.later hE69) (by omega)
  rw [X1.out] at D4
  rw [X2.out] at D5
  rw [X3.out] at D6
  clear D3 hF8 hE68 hE9 hE69
  have HF9 := hide hF9
  clear hF9
  cases u <;> cases v <;> simp only [Bool.and_true, Bool.and_false, Bool.or_true, Bool.or_false, Bool.not_true, Bool.not_false] at D4 D5 D6 <;>
    (go_wp2_with fail
     refine D4.mono ?_
     rintro e w10 ⟨rfl, rfl⟩
     clear D4
     go_wp2_with fail
     refine D5.mono ?_
     rintro e w10 ⟨rfl, rfl⟩
     clear D5
     go_wp2_with fail
     refine D6.mono ?_
     rintro e w10 ⟨rfl, rfl⟩
     clear D6
     go_wp2
     go_ret
     exact ⟨rfl, HF9.out⟩)
end Go.Proofs.Ytfkmcknkapplmaa
