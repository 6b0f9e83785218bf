/- SetsMay, SetsLess, SetsRest under the program's contracts. -/
import Derived.Test.YtfkmcknkapplmaaSetLaw
namespace Go.Proofs.Ytfkmcknkapplmaa
open Go.RowKit Sets

set_option maxHeartbeats 2000000 in
set_option maxRecDepth 10000 in
theorem setsMay_walk0 (A : Option Addr) (n c : Nat) (l : List Int) (x : Int) (w : World) (hB : SBothC w) (hM : SMayC w) (hN : SNextC w) (hx : -9223372036854775808 ≤ x ∧ x ≤ 9223372036854775807) (hn : n ≤ c) (hc : c ≤ maxLen) (h : IntsAt w w.heap.size A n l) :
    Calls Try.prog 3 #[.slice A n c, .int .i64 x] w fun e w' => e = .returned (.bool true) ∧ Ext w w' := by
  have C0 := alive14_any hB (Ext.refl w)
  by_cases hbig : 1000 < n
  · have hbI : (1000 : Int) < (n : Int) := by omega
    clear h hB hM hN hx
    go_enter Try.func3, Try.ntmps3
    go_wp2_with fail
    refine C0.mono ?_
    rintro e w1 ⟨rfl, hE1⟩
    go_wp2
    go_ret
    exact ⟨rfl, hE1⟩
  have hbI : ¬ (1000 : Int) < (n : Int) := by omega
  have H := hide h
  have HM := hide hM
  have HN := hide hN
  have HX := hide hx
  clear h hB hM hN hx
  go_enter Try.func3, Try.ntmps3
  go_wp2_with fail
  refine C0.mono ?_
  rintro e w1 ⟨rfl, hE1⟩
  have C1 := HN.out l x A n c w1 hE1 HX.out hn hc (by omega) (H.out.later hE1)
  clear C0
  generalize hres : nextE l x = res at *
  obtain ⟨r1, r2⟩ := res
  have HR := hide hres
  clear hres
  dsimp only at C1
  go_wp2_with fail
  refine C1.mono ?_
  rintro e w2 ⟨rfl, hE2⟩
  have hF2 := hE1.trans hE2
  have C2 := refSNext_any A n c l x w2 (H.out.later hF2) (by omega)
  rw [HR.out] at C2
  dsimp only at C2
  clear C1 hE1 hE2
  go_wp2_with fail
  refine C2.mono ?_
  rintro e w3 ⟨rfl, hE3⟩
  have hF3 := hF2.trans hE3
  have C3 := HM.out l A n c w3 hF3 hn hc (by omega) (H.out.later hF3)
  clear C2 hF2 hE3
  generalize hok : ok l = k at *
  have HK := hide hok
  clear hok
  go_wp2_with fail
  refine C3.mono ?_
  rintro e w4 ⟨rfl, hE4⟩
  have hF4 := hF3.trans hE4
  have C4 := refSMay_any A n c l w4 (H.out.later hF4) (by omega)
  rw [HK.out] at C4
  have b1 : (k == k) = true := by simp
  have b2 : (r1 == r1) = true := by simp
  have b3 : (r2 == r2) = true := by simp
  clear C3 hF3 hE4
  go_wp2_with fail
  refine C4.mono ?_
  rintro e w5 ⟨rfl, hQ5⟩
  clear C4
  go_wp2
  go_ret
  exact ⟨rfl, hF4.trans hQ5.ext⟩

set_option maxHeartbeats 2000000 in
set_option maxRecDepth 10000 in
theorem setsLess_walk0 (A1 : Option Addr) (n1 c1 : Nat) (a : List Int) (A : Option Addr) (n c : Nat) (ls : List (List Int)) (w : World) (hB : SBothC w) (hC : SLessC w) (hn1 : n1 ≤ c1) (hc1 : c1 ≤ maxLen) (h1 : IntsAt w w.heap.size A1 n1 a) (hn : n ≤ c) (hc : c ≤ maxLen) (h : ILists w w.heap.size A n ls) :
    Calls Try.prog 6 #[.slice A1 n1 c1, .slice A n c] w fun e w' => e = .returned (.bool true) ∧ Ext w w' := by
  have C0 := alive14_any hB (Ext.refl w)
  have hl1 := h1.1
  by_cases hbig : 60 < n1
  · have hbI : (60 : Int) < (n1 : Int) := by omega
    clear h h1 hB hC hl1
    go_enter Try.func6, Try.ntmps6
    go_wp2_with fail
    refine C0.mono ?_
    rintro e w1 ⟨rfl, hE1⟩
    go_wp2
    go_ret
    exact ⟨rfl, hE1⟩
  have hbI : ¬ (60 : Int) < (n1 : Int) := by omega
  have H := hide h
  have H1 := hide h1
  have HC := hide hC
  have HL1 := hide hl1
  clear h h1 hB hC hl1
  go_enter Try.func6, Try.ntmps6
  go_wp2_with fail
  refine C0.mono ?_
  rintro e w1 ⟨rfl, hE1⟩
  have CG := great_any A n c ls w1 (H.out.ext hE1)
  clear C0
  go_wp2_with fail
  refine CG.mono ?_
  rintro e w2 ⟨g, rfl, hg, rfl⟩
  clear CG
  cases g with
  | true =>
    clear hg
    go_wp2
    go_ret
    exact ⟨rfl, hE1⟩
  | false =>
    obtain ⟨g1, g2⟩ := hg rfl
    have C1 := HC.out a ls A1 A n1 c1 n c w1 hE1 hn1 hc1 (by omega) (H1.out.later hE1) hn hc g1 (fun l hl => by have := g2 l hl; omega) (H.out.ext hE1)
    have G2 := hide g2
    clear hg
    have hl4 : (lessE a ls).1.length ≤ 140737488355328 := by
      have h9 := lessE_len a ls
      have h8 := HL1.out
      omega
    generalize hres : lessE a ls = res at *
    have HRes := hide hres
    clear hres g2
    go_wp2_with fail
    refine C1.mono ?_
    rintro e w3 ⟨A3, c3, rfl, -, -, h3, hE3⟩
    have hF3 := hE1.trans hE3
    have C2 := refSLess_any A1 n1 c1 a A n c ls w3 (H1.out.later hF3) (by omega) (H.out.ext hF3) (by omega) (fun l hl => by have := G2.out l hl; omega)
    rw [HRes.out] at C2
    clear C1
    go_wp2_with fail
    refine C2.mono ?_
    rintro e w4 ⟨A4, c4, rfl, _, _, h4, hE4⟩
    have CS := refSame9_any A3 A4 c3 c4 res.1 res.1 w4 (h3.later hE4) h4 hl4
    rw [decide_eq_true rfl] at CS
    have heb : (res.2 == res.2) = true := by simp
    have hF4 := hF3.trans hE4
    clear C2 h3 h4 HRes
    generalize res.2 = er at *
    generalize res.1.length = kk at *
    go_wp2_with fail
    refine CS.mono ?_
    rintro e w5 ⟨rfl, hE5⟩
    go_wp2
    go_ret
    exact ⟨rfl, hF4.trans hE5⟩

theorem Sets.rest_twice {bound : Int} {l : List Int} (h : (restE bound l).2 = 0) : restE bound (restE bound l).1 = (l, 0) ∧ (restE bound l).1.length ≤ 20000 := by
  refine ⟨?_, restE_len bound l⟩
  by_cases hc : (0 ≤ bound ∧ bound ≤ 20000) ∧ ok l = true ∧ (l.all fun y => decide (y < bound)) = true
  · have e : restE bound l = (restL bound.toNat l, 0) := by unfold restE; rw [if_pos hc]
    rw [e]
    have hb : ∀ y, y ∈ l → y < ((bound.toNat : Nat) : Int) := fun y hy => by
      have := of_decide_eq_true ((List.all_eq_true.1 hc.2.2) y hy)
      omega
    unfold restE
    rw [if_pos ⟨hc.1, ok_rest _ _, List.all_eq_true.2 fun y hy => by
      have := (mem_rest.1 hy).1.2
      exact decide_eq_true (by omega)⟩, rest_rest hc.2.1 hb]
  · have e : restE bound l = ([], 13) := by unfold restE; rw [if_neg hc]
    rw [e] at h
    simp at h

set_option maxHeartbeats 2000000 in
set_option maxRecDepth 10000 in
theorem setsRest_walk0 (bound : Int) (A : Option Addr) (n c : Nat) (l : List Int) (w : World) (hB : SBothC w) (hR : SRestC w) (hx : -9223372036854775808 ≤ bound ∧ bound ≤ 9223372036854775807) (hn : n ≤ c) (hc : c ≤ maxLen) (h : IntsAt w w.heap.size A n l) :
    Calls Try.prog 7 #[.int .i64 bound, .slice A n c] w fun e w' => e = .returned (.bool true) ∧ Ext w w' := by
  have C0 := alive14_any hB (Ext.refl w)
  have hl := h.1
  by_cases hbig : 1000 < n
  · have hbI : (1000 : Int) < (n : Int) := by omega
    clear h hB hR hx hl
    go_enter Try.func7, Try.ntmps7
    go_wp2_with fail
    refine C0.mono ?_
    rintro e w1 ⟨rfl, hE1⟩
    go_wp2
    go_ret
    exact ⟨rfl, hE1⟩
  have hbI : ¬ (1000 : Int) < (n : Int) := by omega
  subst hl
  have H := hide h
  have HR := hide hR
  have HX := hide hx
  clear h hB hR hx
  go_enter Try.func7, Try.ntmps7
  go_wp2_with fail
  refine C0.mono ?_
  rintro e w1 ⟨rfl, hE1⟩
  have C1 := HR.out bound l A l.length c w1 hE1 HX.out hn hc (by omega) (H.out.later hE1)
  clear C0
  have HTw := hide (fun h => rest_twice (bound := bound) (l := l) h)
  have hl4 : (restE bound l).1.length ≤ 20000 := restE_len bound l
  generalize hres : restE bound l = res at *
  have HRes := hide hres
  clear hres
  go_wp2_with fail
  refine C1.mono ?_
  rintro e w3 ⟨A3, c3, rfl, k3, k4, h3, hE3⟩
  have hF3 := hE1.trans hE3
  have C2 := refSRest_any A l.length c l bound w3 (H.out.later hF3) (by omega)
  rw [HRes.out] at C2
  clear C1
  go_wp2_with fail
  refine C2.mono ?_
  rintro e w4 ⟨A4, c4, rfl, _, _, h4, hE4⟩
  have CS := refSame9_any A3 A4 c3 c4 res.1 res.1 w4 (h3.later hE4) h4 (by omega)
  rw [decide_eq_true rfl] at CS
  have heb : (res.2 != res.2) = false := by simp
  have hF4 := hF3.trans hE4
  have H3 := hide (h3.later hE4)
  have HK := hide (And.intro k3 k4)
  clear C2 h3 h4 HRes k3 k4
  obtain ⟨r1, er⟩ := res
  dsimp only at *
  go_wp2_with fail
  refine CS.mono ?_
  rintro e w5 ⟨rfl, hE5⟩
  have hF5 := hF4.trans hE5
  have H5 := hide (H3.out.later hE5)
  clear CS H3 hF4 hE5
  by_cases he : er = 0
  case neg =>
    have hb : (er != 0) = true := by rw [bne_iff_ne]; exact he
    clear he HTw
    go_wp2
    go_ret
    exact ⟨rfl, hF5⟩
  subst he
  obtain ⟨t1, -⟩ := HTw.out rfl
  have C6 := HR.out bound r1 A3 r1.length c3 w5 hF5 HX.out HK.out.1 HK.out.2 hl4 H5.out
  rw [t1] at C6
  clear HTw t1
  go_wp2_with fail
  refine C6.mono ?_
  rintro e w6 ⟨A6, c6, rfl, -, -, h6, hE6⟩
  have hF6 := hF5.trans hE6
  have CS := refSame9_any A6 A c6 c l l w6 h6 (H.out.later hF6) (by omega)
  rw [decide_eq_true rfl] at CS
  clear C6 h6
  dsimp only
  go_wp2_with fail
  refine CS.mono ?_
  rintro e w7 ⟨rfl, hE7⟩
  go_wp2
  go_ret
  exact ⟨rfl, hF6.trans hE7⟩
end Go.Proofs.Ytfkmcknkapplmaa
