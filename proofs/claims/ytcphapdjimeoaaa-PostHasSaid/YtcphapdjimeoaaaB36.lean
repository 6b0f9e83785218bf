/- The program's Same of chapter 18; the library's Equal at numbers and at texts, EqualFunc at lists of numbers. -/
import Derived.Test.YtcphapdjimeoaaaB06
import Derived.Test.YtcphapdjimeoaaaB20
import Derived.Test.YtcphapdjimeoaaaB35
import Derived.BigQuiet
namespace Go.Proofs.Ytcphapdjimeoaaa
open Go.RowKit

set_option maxHeartbeats 1000000 in
set_option maxRecDepth 100000 in
theorem pEqI_any (A1 A2 : Option Addr) (c1 c2 : Nat) (a b : List Int) (w : World) (h1 : IntsAt w w.heap.size A1 a.length a) (h2 : IntsAt w w.heap.size A2 b.length b) (hn0 : a.length ≤ 140737488355328) :
    Calls Try.prog 38 #[.slice A1 a.length c1, .slice A2 b.length c2] w fun e w' => e = .returned (.bool (decide (a = b))) ∧ Qt w w' := by
  by_cases hl : a.length = b.length
  · have HEq := hide (show (∀ i, i < a.length → a.getD i 0 = b.getD i 0) → decide (a = b) = true from fun h => decide_eq_true (Huf.list_ext hl h))
    have HNe := hide (show ∀ i, a.getD i 0 ≠ b.getD i 0 → decide (a = b) = false from fun i h => decide_eq_false fun e => h (by rw [e]))
    have hlb : ((a.length : Int) != (b.length : Int)) = false := by simp; omega
    have HA := hide h1
    have HB := hide h2
    generalize decide (a = b) = res at *
    rw [← hl] at HB ⊢
    generalize a.length = n at *
    clear h1 h2 hl
    go_enter Try.func38, Try.ntmps38
    go_wp2
    go_loopw [13] (fun x wr => ∃ i : Nat, i ≤ n ∧ x = .int .i64 (i : Int) ∧ (∀ j, j < i → a.getD j 0 = b.getD j 0) ∧ Qt w wr) (fun x _ => n - (intOf x).toNat)
    case atStart => exact ⟨0, by omega, rfl, fun j hj => absurd hj (by omega), Qt.refl _⟩
    case round =>
      obtain ⟨i, hi, rfl, hall, hQ⟩ := hrel
      have HAll := hide hall
      clear hall
      by_cases hlt : i < n
      · have hiI : (i : Int) < (n : Int) := by omega
        rcases (HA.out.later hQ.ext).2 with hn | ⟨b1, o1, rfl, _, hc1⟩
        · omega
        rcases (HB.out.later hQ.ext).2 with hn | ⟨b2, o2, rfl, _, hc2⟩
        · omega
        have e1 := hc1 i hlt
        have e2 := hc2 i hlt
        have hNe := HNe.out i
        clear hc1 hc2
        by_cases he : a.getD i 0 = b.getD i 0
        · have HE := hide he
          obtain ⟨y, hy⟩ : ∃ y, y = b.getD i 0 := ⟨_, rfl⟩
          rw [he, ← hy] at e1
          rw [← hy] at e2
          clear he hNe hy
          go_wp2_with fail
          go_quiet (fail)
          go_wp2
          go_roundw
          case rel => exact ⟨i + 1, by omega, by go_num, fun j hj => (by
            by_cases e : j = i
            · rw [e]; exact HE.out
            · exact HAll.out j (by omega)), hQ.drewN _⟩
          case measure => simp [intOf]; omega
        · have HN := hide (hNe he)
          have heb : (a.getD i 0 != b.getD i 0) = true := by simpa using he
          generalize a.getD i 0 = y1 at *
          generalize b.getD i 0 = y2 at *
          clear hNe he
          go_wp2_with fail
          go_quiet (fail)
          go_wp2
          go_ret
          exact ⟨ret_bool HN.out.symm, hQ.drewN _⟩
      · obtain rfl : n = i := by omega
        have HN := hide (HEq.out HAll.out)
        go_wp2
        go_ret
        exact ⟨ret_bool HN.out.symm, hQ⟩
  · have HN := hide (show decide (a = b) = false from decide_eq_false fun e => hl (by rw [e]))
    have hlb : ((a.length : Int) != (b.length : Int)) = true := by simp; omega
    generalize decide (a = b) = res at *
    clear h1 h2
    go_enter Try.func38, Try.ntmps38
    go_wp2
    go_ret
    exact ⟨ret_bool HN.out.symm, Qt.refl _⟩
set_option maxHeartbeats 1000000 in
set_option maxRecDepth 100000 in
theorem pEqTx_any (A1 A2 : Option Addr) (c1 c2 : Nat) (a b : List (List UInt8)) (w : World) (h1 : TextsAt w w.heap.size A1 a.length a) (h2 : TextsAt w w.heap.size A2 b.length b) (hn0 : a.length ≤ 140737488355328) :
    Calls Try.prog 36 #[.slice A1 a.length c1, .slice A2 b.length c2] w fun e w' => e = .returned (.bool (decide (a = b))) ∧ Ext w w' := by
  by_cases hl : a.length = b.length
  · have HEq := hide (show (∀ i, i < a.length → a.getD i [] = b.getD i []) → decide (a = b) = true from fun h => decide_eq_true (Wrd.list_ext hl h))
    have HNe := hide (show ∀ i, a.getD i [] ≠ b.getD i [] → decide (a = b) = false from fun i h => decide_eq_false fun e => h (by rw [e]))
    have hlb : ((a.length : Int) != (b.length : Int)) = false := by simp; omega
    have HA := hide h1
    have HB := hide h2
    generalize decide (a = b) = res at *
    rw [← hl] at HB ⊢
    generalize a.length = n at *
    clear h1 h2 hl
    go_enter Try.func36, Try.ntmps36
    go_wp2
    go_loopw [13] (fun x wr => ∃ i : Nat, i ≤ n ∧ x = .int .i64 (i : Int) ∧ (∀ j, j < i → a.getD j [] = b.getD j []) ∧ Qt w wr) (fun x _ => n - (intOf x).toNat)
    case atStart => exact ⟨0, by omega, rfl, fun j hj => absurd hj (by omega), Qt.refl _⟩
    case round =>
      obtain ⟨i, hi, rfl, hall, hQ⟩ := hrel
      have HAll := hide hall
      clear hall
      by_cases hlt : i < n
      · have hiI : (i : Int) < (n : Int) := by omega
        rcases (HA.out.later hQ.ext).2 with hn | ⟨b1, o1, rfl, _, hc1⟩
        · omega
        rcases (HB.out.later hQ.ext).2 with hn | ⟨b2, o2, rfl, _, hc2⟩
        · omega
        have e1 := hc1 i hlt
        have e2 := hc2 i hlt
        have hNe := HNe.out i
        clear hc1 hc2
        by_cases he : a.getD i [] = b.getD i []
        · have HE := hide he
          obtain ⟨y, hy⟩ : ∃ y, y = b.getD i [] := ⟨_, rfl⟩
          rw [he, ← hy] at e1
          rw [← hy] at e2
          clear he hNe hy
          go_wp2_with fail
          go_quiet (fail)
          go_wp2
          go_roundw
          case rel => exact ⟨i + 1, by omega, by go_num, fun j hj => (by
            by_cases e : j = i
            · rw [e]; exact HE.out
            · exact HAll.out j (by omega)), hQ.drewN _⟩
          case measure => simp [intOf]; omega
        · have HN := hide (hNe he)
          have heb : (!(a.getD i [] == b.getD i [])) = true := by simpa using he
          generalize a.getD i [] = y1 at *
          generalize b.getD i [] = y2 at *
          clear hNe he
          go_wp2_with fail
          go_quiet (fail)
          go_wp2
          go_ret
          exact ⟨ret_bool HN.out.symm, (hQ.drewN _).ext⟩
      · obtain rfl : n = i := by omega
        have HN := hide (HEq.out HAll.out)
        go_wp2
        go_ret
        exact ⟨ret_bool HN.out.symm, hQ.ext⟩
  · have HN := hide (show decide (a = b) = false from decide_eq_false fun e => hl (by rw [e]))
    have hlb : ((a.length : Int) != (b.length : Int)) = true := by simp; omega
    generalize decide (a = b) = res at *
    clear h1 h2
    go_enter Try.func36, Try.ntmps36
    go_wp2
    go_ret
    exact ⟨ret_bool HN.out.symm, Ext.refl _⟩

theorem enteredI_of {K : Nat} {fn : Func} {c : Code} (hf : Try.prog.funcs[K]? = some fn) (hname : (fn.name == "runtime.NumGoroutine") = false) (hb : fn.body = some c) (args : Array Value) (W : World) : (callFunc K args).run Try.prog W = .ok (.enter K args) W := by
  have h1 : fn.name ≠ "runtime.NumGoroutine" := by simpa using hname
  simp [callFunc, hf, h1, hb]
theorem enteredI_equal (args : Array Value) (W : World) : (callFunc 38 args).run Try.prog W = .ok (.enter 38 args) W := enteredI_of Try.func38 (by kernel_rfl) rfl args W

set_option maxHeartbeats 1000000 in
set_option maxRecDepth 100000 in
theorem equalFuncI_any (A1 A2 : Option Addr) (c1 c2 : Nat) (ls ms : List (List Int)) (w : World) (h1 : ILists w w.heap.size A1 ls.length ls) (h2 : ILists w w.heap.size A2 ms.length ms) (hl : ls.length ≤ 1000000) (hr : ∀ l, l ∈ ls → l.length ≤ 1000000) :
    Calls Try.prog 37 #[.slice A1 ls.length c1, .slice A2 ms.length c2, .func (.func 38) #[] #[]] w fun e w' => e = .returned (.bool (decide (ls = ms))) ∧ Ext w w' := by
  have hEn := enteredI_equal
  by_cases hne : ls.length = ms.length
  · have hne' : ((ls.length : Int) != (ms.length : Int)) = false := by simp; omega
    have HQ := hide hne
    clear hne
    go_enter Try.func37, Try.ntmps37
    go_wp2
    go_loopw [17] (fun i wr => ∃ j : Nat, j ≤ ls.length ∧ i = .int .i64 (j : Int) ∧ (∀ a, a < j → ls.getD a [] = ms.getD a []) ∧ Ext w wr) (fun i _ => ls.length - (intOf i).toNat)
    case atStart => exact ⟨0, by omega, rfl, fun a ha => absurd ha (by omega), Ext.refl _⟩
    case round =>
      obtain ⟨j, hj1, rfl, hz, hE⟩ := hrel
      have HZ := hide hz
      clear hz
      by_cases hlt : j < ls.length
      · obtain ⟨b1, o1, Ax, kx, hA, k1, _, _, hx4⟩ := (h1.ext hE).at hlt
        obtain ⟨b2, o2, Ay, ky, hB, k2, _, _, hy4⟩ := (h2.ext hE).at (show j < ms.length by have := HQ.out; omega)
        subst hA hB
        have hj0 : (0 : Int) ≤ (j : Int) := by omega
        have hj2 : (j : Int) < (ls.length : Int) := by omega
        have hj3 : (j : Int) < (ms.length : Int) := by have := HQ.out; omega
        have hrj : (ls.getD j []).length ≤ 1000000 := hr _ (by rw [List.getD_eq_getElem?_getD, List.getElem?_eq_getElem hlt]; exact List.getElem_mem _)
        have C := pEqI_any Ax Ay kx ky _ _ wr hx4 hy4 (by omega)
        obtain ⟨lx, hlx⟩ : ∃ n, n = ls.getD j [] := ⟨_, rfl⟩
        obtain ⟨ly, hly⟩ : ∃ n, n = ms.getD j [] := ⟨_, rfl⟩
        rw [← hlx] at k1 C
        rw [← hly] at k2 C
        have HX := hide hlx
        have HY := hide hly
        clear hlx hly h1 h2 hx4 hy4 hr hrj
        by_cases he : lx = ly
        · rw [decide_eq_true he] at C
          subst he
          go_wp2_with fail
          refine C.mono ?_
          rintro e w1 ⟨rfl, hQ1⟩
          have hE1 := hE.trans hQ1.ext
          go_wp2
          go_roundw
          case rel =>
            refine ⟨j + 1, by omega, by go_num, fun a ha => ?_, hE1⟩
            by_cases haj : a = j
            · rw [haj, ← HX.out, ← HY.out]
            · exact HZ.out a (by omega)
          case measure => simp [intOf]; omega
        · rw [decide_eq_false he] at C
          have HE := hide he
          clear he
          go_wp2_with fail
          refine C.mono ?_
          rintro e w1 ⟨rfl, hQ1⟩
          go_wp2
          go_ret
          exact ⟨ret_bool (decide_eq_false fun h => HE.out (by rw [HX.out, HY.out, h])).symm, hE.trans hQ1.ext⟩
      · obtain rfl : ls.length = j := by omega
        clear h1 h2
        go_wp2
        go_ret
        refine ⟨ret_bool (decide_eq_true ?_).symm, hE⟩
        exact Pst.lists_ext HQ.out HZ.out
  · have hne' : ((ls.length : Int) != (ms.length : Int)) = true := by simp; omega
    have HN := hide hne
    clear hne h1 h2
    go_enter Try.func37, Try.ntmps37
    go_wp2
    go_ret
    exact ⟨ret_bool (decide_eq_false fun h => HN.out (by rw [h])).symm, Ext.refl _⟩

set_option maxHeartbeats 2000000 in
set_option maxRecDepth 100000 in
theorem pSame18_any (m m' : IxV) (w : World) (h : m.lies w) (h' : m'.lies w) (hn : m.n1 ≤ 1000000) (hn2 : m.n2 ≤ 1000000) (hls : ∀ l, l ∈ m.x.lists → l.length ≤ 1000000) : Calls Try.prog 19 #[.agg #[.slice m.a1 m.n1 m.c1, .slice m.a2 m.n2 m.c2], .agg #[.slice m'.a1 m'.n1 m'.c1, .slice m'.a2 m'.n2 m'.c2]] w fun e w' => e = .returned (.bool (decide (m.x = m'.x))) ∧ Ext w w' := by
  obtain ⟨a1, n1, c1, a2, n2, c2, xt, xl⟩ := m
  obtain ⟨b1, k1, d1, b2, k2, d2, yt, yl⟩ := m'
  obtain ⟨⟨-, -, hT⟩, -, -, hL⟩ := h
  obtain ⟨⟨-, -, hT'⟩, -, -, hL'⟩ := h'
  dsimp only at hT hL hT' hL' hn hn2 hls ⊢
  have hl1 := hT.1
  have hl2 := hL.1
  have hl3 := hT'.1
  have hl4 := hL'.1
  subst hl1 hl2 hl3 hl4
  have CT := fun W (hE : Ext w W) => pEqTx_any a1 b1 c1 d1 xt yt W (hT.later hE) (hT'.later hE) (by omega)
  have CL := fun W (hE : Ext w W) => equalFuncI_any a2 b2 c2 d2 xl yl W (hL.ext hE) (hL'.ext hE) hn2 hls
  have hEq : decide ((⟨xt, xl⟩ : Ix) = ⟨yt, yl⟩) = (decide (xt = yt) && decide (xl = yl)) := by
    rw [Bool.eq_iff_iff]
    simp
  rw [hEq]
  clear hEq hT hL hT' hL' hls
  obtain ⟨w1, hw1⟩ : ∃ w1, w1 = w.alloc (.cells #[.slice a1 xt.length c1, .slice a2 xl.length c2] 29) := ⟨_, rfl⟩
  obtain ⟨w2, hw2⟩ : ∃ w2, w2 = w1.alloc (.cells #[.slice b1 yt.length d1, .slice b2 yl.length d2] 29) := ⟨_, rfl⟩
  have hE1 : Ext w w1 := by rw [hw1]; exact extNew w _
  have hE2 : Ext w1 w2 := by rw [hw2]; exact extNew w1 _
  have hs : w1.heap.size = w.heap.size + 1 := by rw [hw1]; simp
  have HX := hide (show Whole w2 w.heap.size 29 #[.slice a1 xt.length c1, .slice a2 xl.length c2] from by
    have : Whole w1 w.heap.size 29 #[.slice a1 xt.length c1, .slice a2 xl.length c2] := by rw [hw1]; exact Whole.new w _ _
    exact this.ext hE2)
  have HY := hide (show Whole w2 (w.heap.size + 1) 29 #[.slice b1 yt.length d1, .slice b2 yl.length d2] by rw [← hs, hw2]; exact Whole.new w1 _ _)
  have HE2 := hide (hE1.trans hE2)
  have HW1 := hide hw1
  have HW2 := hide hw2
  have C := CT w2 HE2.out
  have CL2 := hide (fun W (hE : Ext w2 W) => CL W (HE2.out.trans hE))
  have d0 := HX.out.at 0 (u := .slice a1 xt.length c1) rfl
  have d1' := HY.out.at 0 (u := .slice b1 yt.length d1) rfl
  clear hE1 hE2 hs hw1 hw2 CT CL
  generalize decide (xl = yl) = eb at *
  generalize xt.length = n1 at *
  generalize xl.length = n2 at *
  generalize yt.length = k1 at *
  generalize yl.length = k2 at *
  cases he : decide (xt = yt) with
  | false =>
    rw [he] at C
    rw [Bool.false_and]
    clear he CL2
    go_enter Try.func19, Try.ntmps19
    go_wp2_with fail
    rw [← HW1.out]
    rw [← HW2.out]
    go_wp2_with fail
    refine C.mono ?_
    rintro e w3 ⟨rfl, hQ3⟩
    clear C
    go_wp2
    go_ret
    exact ⟨rfl, HE2.out.trans hQ3⟩
  | true =>
    rw [he] at C
    rw [Bool.true_and]
    clear he
    go_enter Try.func19, Try.ntmps19
    go_wp2_with fail
    rw [← HW1.out]
    rw [← HW2.out]
    go_wp2_with fail
    refine C.mono ?_
    rintro e w3 ⟨rfl, hQ3⟩
    have C2 := CL2.out w3 hQ3
    have g2 := (HX.out.ext hQ3).at 1 (u := .slice a2 n2 c2) rfl
    have g3 := (HY.out.ext hQ3).at 1 (u := .slice b2 k2 d2) rfl
    have HE3 := hide (HE2.out.trans hQ3)
    clear C CL2 d0 d1' hQ3
    go_wp2_with fail
    refine C2.mono ?_
    rintro e w4 ⟨rfl, hE4⟩
    go_wp2
    go_ret
    exact ⟨rfl, HE3.out.trans hE4⟩
theorem pSameC_any (w : World) : PSameC w := fun m m' W _ h1 h2 _ _ h5 h h' => pSame18_any m m' W h h' (by omega) (by omega) (fun l hl => by have := h5 l hl; omega)

set_option maxHeartbeats 2000000 in
set_option maxRecDepth 100000 in
theorem pMay18_any (bound : Int) (m : IxV) (w : World) (hs1 : m.n1 ≤ 5000) (hs2 : m.n2 ≤ 5000) (hs : ∀ s, s ∈ m.x.terms → s.length ≤ 1000) (hls : ∀ l, l ∈ m.x.lists → l.length ≤ 20000) (h : m.lies w) :
    Calls Try.prog 14 #[.int .i64 bound, .agg #[.slice m.a1 m.n1 m.c1, .slice m.a2 m.n2 m.c2]] w fun e w' => e = .returned (.bool (Pst.mayE bound m.x)) ∧ Ext w w' := by
  obtain ⟨w1, hw1⟩ : ∃ w1, w1 = w.alloc (.cells #[.slice m.a1 m.n1 m.c1, .slice m.a2 m.n2 m.c2] 29) := ⟨_, rfl⟩
  have HE1 := hide (show Ext w w1 by rw [hw1]; exact extNew w _)
  have HW := hide (show Whole w1 w.heap.size 29 #[.slice m.a1 m.n1 m.c1, .slice m.a2 m.n2 m.c2] by rw [hw1]; exact Whole.new w _ _)
  have C := pBytes18_any 64 bound m w1 hs1 hs2 hs hls (h.later HE1.out)
  have hr : (Pst.bytesE 64 bound m.x).2 = if Pst.mayE bound m.x = true then 0 else 13 := by
    unfold Pst.bytesE
    cases Pst.mayE bound m.x with
    | true => rw [if_neg (by simp), if_pos rfl]
    | false => rw [if_pos (.inr (.inr rfl)), if_neg (by simp)]
  unfold MadeE at C
  rw [hr] at C
  have HW1 := hide hw1
  generalize (Pst.bytesE 64 bound m.x).1 = res at *
  clear hr hw1 h hs hls hs1 hs2
  have d0 := HW.out.at 0 (u := .slice m.a1 m.n1 m.c1) rfl
  have d1 := HW.out.at 1 (u := .slice m.a2 m.n2 m.c2) rfl
  generalize Pst.mayE bound m.x = mb at *
  cases mb with
  | true =>
    rw [if_pos (c := true = true) rfl] at C
    go_enter Try.func14, Try.ntmps14
    go_wp2_with fail
    rw [← HW1.out]
    go_wp2_with fail
    refine C.mono ?_
    rintro e w2 ⟨v2, rfl, hO2, hE2⟩
    clear C d0 d1
    go_wp2
    go_ret
    exact ⟨rfl, HE1.out.trans hE2⟩
  | false =>
    rw [if_neg (c := false = true) (by simp)] at C
    go_enter Try.func14, Try.ntmps14
    go_wp2_with fail
    rw [← HW1.out]
    go_wp2_with fail
    refine C.mono ?_
    rintro e w2 ⟨v2, rfl, hO2, hE2⟩
    clear C d0 d1
    go_wp2
    go_ret
    exact ⟨rfl, HE1.out.trans hE2⟩
theorem pMayC_any (w : World) : PMayC w := fun bound m W _ _ h1 h2 h3 h4 h => pMay18_any bound m W h1 h2 (fun s hs => by have := h3 s hs; omega) (fun l hl => by have := h4 l hl; omega) h
theorem pTermsC_any (w : World) : PTermsC w := fun t lv src text W _ hs ht => pTerms_any t lv src text W (by omega) (by omega)
end Go.Proofs.Ytcphapdjimeoaaa

