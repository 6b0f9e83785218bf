/- The laws RsParity, RsMends, RsRight. -/
import Derived.Test.YtbfkknoeaekajaaRsLaw
namespace Go.Proofs.Ytbfkknoeaekajaa
open Go.RowKit

theorem parityE_len (m : Int) (data : List (List UInt8)) : (parityE m data).1.length ≤ 1000000 := by
  unfold parityE
  split
  · rename_i h
    have := mayK_iff.1 h.1
    rw [timesL_len]
    omega
  · simp
theorem mendE_len (k m : Int) (parts : List (List UInt8)) (good : List Bool) : (mendE k m parts good).1.length ≤ 1000000 := by
  unfold mendE
  split
  · rename_i h
    have := mayK_iff.1 h.1
    split
    · split
      · simp
      · rw [codeL_len]
        omega
    · simp
  · simp

set_option maxHeartbeats 2000000 in
set_option maxRecDepth 100000 in
theorem rsParity_walk0 (m : Int) (A : Option Addr) (c : Nat) (data : List (List UInt8)) (w : World) (hM : MendC w) (hP : ParityC w) (h : RowsAt w w.heap.size A data.length data) (hc : data.length ≤ c) :
    Calls Try.prog 3 #[.int .i64 m, .slice A data.length c] w fun e w' => e = .returned (.bool true) ∧ Below w.heap.size w w' := by
  have G1 := fun W hE => great6_any A c data W (h.ext hE)
  have HX := hide (parityE_len m data)
  go_enter Try.func3, Try.ntmps3
  go_wp2_with fail
  refine (alive6_any hM (Ext.refl w)).mono ?_
  rintro e w1 ⟨rfl, hE1⟩
  go_wp2_with fail
  refine (G1 _ hE1).mono ?_
  rintro e w2 ⟨b, rfl, hb, hE2⟩
  have hE12 := hE1.trans hE2
  cases b with
  | true =>
    go_wp2
    go_ret
    exact ⟨rfl, hE12⟩
  | false =>
    obtain ⟨f1, f2⟩ := hb rfl
    have M1 := fun W => refMayK_any (data.length : Int) m W (by omega)
    have C1 := hP m A c data w2 hE12 (h.ext hE12) hc (by omega) (fun i hi => by have := f2 i hi; omega)
    have C2 := fun W hE => refParity_any m A c data W (h.ext hE) (by omega) (by
      by_cases h0 : 0 < data.length
      · have := f2 0 h0; omega
      · rw [List.getD_eq_getElem?_getD, List.getElem?_eq_none (by omega)]; simp)
    have hee : ((parityE m data).2 == (parityE m data).2) = true := by simp
    generalize (parityE m data).1 = X at *
    generalize (parityE m data).2 = pe at *
    clear hb f2 G1 hM hP
    cases hmay : mayK data.length m with
    | true =>
      rw [hmay] at M1
      by_cases h20 : (20 : Int) < m
      · clear hmay C1 C2
        go_wp2_with fail
        refine (M1 _).mono ?_
        rintro e w3 ⟨rfl, rfl⟩
        go_wp2
        go_ret
        exact ⟨rfl, hE12⟩
      · clear hmay
        go_wp2_with fail
        refine (M1 _).mono ?_
        rintro e w3 ⟨rfl, rfl⟩
        go_wp2_with fail
        refine C1.mono ?_
        rintro e w4 ⟨v, rfl, hO4, hE4⟩
        obtain ⟨A4, c4, rfl, _, _, hR4⟩ := hO4.form
        have hE14 := hE12.trans hE4
        go_wp2_with fail
        refine (C2 _ hE14).mono ?_
        rintro e w5 ⟨v, rfl, hO5, hE5⟩
        obtain ⟨A5, c5, rfl, _, _, hR5⟩ := hO5.form
        have S1 := refSameP_any A4 A5 c4 c5 X X w5 (hR4.ext hE5) hR5 HX.out
        simp only [decide_true] at S1
        go_wp2_with fail
        refine S1.mono ?_
        rintro e w6 ⟨rfl, hE6⟩
        go_wp2
        go_ret
        exact ⟨ret_bool (by simp), (hE14.trans hE5).trans hE6⟩
    | false =>
      rw [hmay] at M1
      clear hmay
      go_wp2_with fail
      refine (M1 _).mono ?_
      rintro e w3 ⟨rfl, rfl⟩
      go_wp2_with fail
      refine C1.mono ?_
      rintro e w4 ⟨v, rfl, hO4, hE4⟩
      obtain ⟨A4, c4, rfl, _, _, hR4⟩ := hO4.form
      have hE14 := hE12.trans hE4
      go_wp2_with fail
      refine (C2 _ hE14).mono ?_
      rintro e w5 ⟨v, rfl, hO5, hE5⟩
      obtain ⟨A5, c5, rfl, _, _, hR5⟩ := hO5.form
      have S1 := refSameP_any A4 A5 c4 c5 X X w5 (hR4.ext hE5) hR5 HX.out
      simp only [decide_true] at S1
      go_wp2_with fail
      refine S1.mono ?_
      rintro e w6 ⟨rfl, hE6⟩
      go_wp2
      go_ret
      exact ⟨ret_bool (by simp), (hE14.trans hE5).trans hE6⟩

set_option maxHeartbeats 2000000 in
set_option maxRecDepth 100000 in
theorem rsRight_walk0 (k m : Int) (A : Option Addr) (c : Nat) (parts : List (List UInt8)) (w : World) (hM : MendC w) (hR : RightC w) (hk0 : -9223372036854775808 ≤ k) (hk1 : k ≤ 9223372036854775807) (h : RowsAt w w.heap.size A parts.length parts) (hc : parts.length ≤ c) :
    Calls Try.prog 7 #[.int .i64 k, .int .i64 m, .slice A parts.length c] w fun e w' => e = .returned (.bool true) ∧ Below w.heap.size w w' := by
  have G1 := fun W hE => great6_any A c parts W (h.ext hE)
  go_enter Try.func7, Try.ntmps7
  go_wp2_with fail
  refine (alive6_any hM (Ext.refl w)).mono ?_
  rintro e w1 ⟨rfl, hE1⟩
  go_wp2_with fail
  refine (G1 _ hE1).mono ?_
  rintro e w2 ⟨b, rfl, hb, hE2⟩
  have hE12 := hE1.trans hE2
  cases b with
  | true =>
    go_wp2
    go_ret
    exact ⟨rfl, hE12⟩
  | false =>
    obtain ⟨f1, f2⟩ := hb rfl
    have C1 := hR k m A c parts w2 hE12 hk0 hk1 (h.ext hE12) hc (by omega) (fun i hi => by have := f2 i hi; omega)
    have C2 := fun W hE => refRight_any k m A c parts W hk1 (h.ext hE) hc (by omega) (by
      by_cases h0 : 0 < parts.length
      · have := f2 0 h0; omega
      · rw [List.getD_eq_getElem?_getD, List.getElem?_eq_none (by omega)]; simp)
    have hee : (rightR k m parts == rightR k m parts) = true := by simp
    generalize rightR k m parts = r at *
    clear hb f2 G1 hM hR
    go_wp2_with fail
    refine C1.mono ?_
    rintro e w3 ⟨rfl, hE3⟩
    have hE13 := hE12.trans hE3
    go_wp2_with fail
    refine (C2 _ hE13).mono ?_
    rintro e w4 ⟨rfl, hE4⟩
    go_wp2
    go_ret
    exact ⟨ret_bool (by simp), hE13.trans hE4⟩

set_option maxHeartbeats 2000000 in
set_option maxRecDepth 100000 in
theorem rsMends_walk0 (k m : Int) (A1 A2 : Option Addr) (c1 c2 : Nat) (parts : List (List UInt8)) (good : List Bool) (w : World) (hM : MendC w) (hk0 : -9223372036854775808 ≤ k) (hk1 : k ≤ 9223372036854775807) (h : RowsAt w w.heap.size A1 parts.length parts) (hc : parts.length ≤ c1)
    (h2 : BoolsAt w w.heap.size A2 good.length good) (hc2 : good.length ≤ c2) :
    Calls Try.prog 4 #[.int .i64 k, .int .i64 m, .slice A1 parts.length c1, .slice A2 good.length c2] w fun e w' => e = .returned (.bool true) ∧ Below w.heap.size w w' := by
  have G1 := fun W hE => great6_any A1 c1 parts W (h.ext hE)
  have HX := hide (mendE_len k m parts good)
  go_enter Try.func4, Try.ntmps4
  go_wp2_with fail
  refine (alive6_any hM (Ext.refl w)).mono ?_
  rintro e w1 ⟨rfl, hE1⟩
  go_wp2_with fail
  refine (G1 _ hE1).mono ?_
  rintro e w2 ⟨b, rfl, hb, hE2⟩
  have hE12 := hE1.trans hE2
  cases b with
  | true =>
    go_wp2
    go_ret
    exact ⟨rfl, hE12⟩
  | false =>
    obtain ⟨f1, f2⟩ := hb rfl
    by_cases h300 : (300 : Int) < (good.length : Int)
    · clear hb f2 G1 hM
      go_wp2
      go_ret
      exact ⟨rfl, hE12⟩
    · have M1 := fun W => refMayK_any k m W hk1
      have C1 := hM k m A1 A2 c1 c2 parts good w2 hE12 hk0 hk1 (h.ext hE12) (h2.ext hE12) hc hc2 (by omega) (by omega) (fun i hi => by have := f2 i hi; omega)
      have C2 := fun W hE => refMend_any k m A1 A2 c1 c2 parts good W hk1 (h.ext hE) (h2.ext hE) (by omega) (fun i hi => by have := f2 i hi; omega)
      have hee : ((mendE k m parts good).2 == (mendE k m parts good).2) = true := by simp
      have hsum : mayK k m = true → IntKind.i64.wrap (k + m) = k + m := fun hh => by
        have := mayK_iff.1 hh
        rw [IntKind.wrap_i64]
        omega
      generalize (mendE k m parts good).1 = X at *
      generalize (mendE k m parts good).2 = pe at *
      clear hb f2 G1 hM
      cases hmay : mayK k m with
      | true =>
        rw [hmay] at M1
        have hsum := hsum hmay
        obtain ⟨q1, q2, q3, q4⟩ := mayK_iff.1 hmay
        by_cases h20 : (20 : Int) < k + m
        · clear hmay C1 C2
          go_wp2_with fail
          refine (M1 _).mono ?_
          rintro e w3 ⟨rfl, rfl⟩
          go_wp2
          go_ret
          exact ⟨rfl, hE12⟩
        · clear hmay
          go_wp2_with fail
          refine (M1 _).mono ?_
          rintro e w3 ⟨rfl, rfl⟩
          go_wp2_with fail
          refine C1.mono ?_
          rintro e w4 ⟨v, rfl, hO4, hE4⟩
          obtain ⟨A4, c4, rfl, _, _, hR4⟩ := hO4.form
          have hE14 := hE12.trans hE4
          go_wp2_with fail
          refine (C2 _ hE14).mono ?_
          rintro e w5 ⟨v, rfl, hO5, hE5⟩
          obtain ⟨A5, c5, rfl, _, _, hR5⟩ := hO5.form
          have S1 := refSameP_any A4 A5 c4 c5 X X w5 (hR4.ext hE5) hR5 HX.out
          simp only [decide_true] at S1
          go_wp2_with fail
          refine S1.mono ?_
          rintro e w6 ⟨rfl, hE6⟩
          go_wp2
          go_ret
          exact ⟨ret_bool (by simp), (hE14.trans hE5).trans hE6⟩
      | false =>
        rw [hmay] at M1
        clear hmay hsum
        go_wp2_with fail
        refine (M1 _).mono ?_
        rintro e w3 ⟨rfl, rfl⟩
        go_wp2_with fail
        refine C1.mono ?_
        rintro e w4 ⟨v, rfl, hO4, hE4⟩
        obtain ⟨A4, c4, rfl, _, _, hR4⟩ := hO4.form
        have hE14 := hE12.trans hE4
        go_wp2_with fail
        refine (C2 _ hE14).mono ?_
        rintro e w5 ⟨v, rfl, hO5, hE5⟩
        obtain ⟨A5, c5, rfl, _, _, hR5⟩ := hO5.form
        have S1 := refSameP_any A4 A5 c4 c5 X X w5 (hR4.ext hE5) hR5 HX.out
        simp only [decide_true] at S1
        go_wp2_with fail
        refine S1.mono ?_
        rintro e w6 ⟨rfl, hE6⟩
        go_wp2
        go_ret
        exact ⟨ret_bool (by simp), (hE14.trans hE5).trans hE6⟩
end Go.Proofs.Ytbfkknoeaekajaa
