/- Laws of chapter 18: PostMay. Laws of chapter 18: PostMore. -/
import Derived.Test.YtcphapdjimeoaaaB13
import Derived.Test.YtcphapdjimeoaaaB21
import Derived.Test.YtcphapdjimeoaaaB25
import Derived.Deep.DeepCutAuto
namespace Go.Proofs.Ytcphapdjimeoaaa
open Go.RowKit Pst

/-- From world w on, the program's Same tells what the document's tells. -/
def PSameC (w : World) : Prop := ∀ (m m' : IxV) (W : World), Ext w W → m.n1 ≤ 10000 → m.n2 ≤ 10000 → m'.n1 ≤ 10000 → m'.n2 ≤ 10000 → (∀ l, l ∈ m.x.lists → l.length ≤ 2000) → m.lies W → m'.lies W → Calls Try.prog 19 #[.agg #[.slice m.a1 m.n1 m.c1, .slice m.a2 m.n2 m.c2], .agg #[.slice m'.a1 m'.n1 m'.c1, .slice m'.a2 m'.n2 m'.c2]] W fun e w' => e = .returned (.bool (decide (m.x = m'.x))) ∧ Ext W w'

set_option maxHeartbeats 4000000 in
set_option maxRecDepth 100000 in
theorem postMay_walk0 (bound : Int) (m m2 : IxV) (w : World) (hB : PBuildC w) (hM : PMayC w) (hS : PSameC w) (hb : IsI64 bound) (h : m.lies w) (h2 : m2.lies w) :
    Calls Try.prog 5 #[.int .i64 bound, .agg #[.slice m.a1 m.n1 m.c1, .slice m.a2 m.n2 m.c2], .agg #[.slice m2.a1 m2.n1 m2.c1, .slice m2.a2 m2.n2 m2.c2]] w fun e w' => e = .returned (.bool true) ∧ Ext w w' := by
  obtain ⟨w1, hw1⟩ : ∃ w1, w1 = (w.alloc (.cells #[.slice m.a1 m.n1 m.c1, .slice m.a2 m.n2 m.c2] 29)).alloc (.cells #[.slice m2.a1 m2.n1 m2.c1, .slice m2.a2 m2.n2 m2.c2] 29) := ⟨_, rfl⟩
  have HE1 := hide (show Ext w w1 by rw [hw1]; exact (extNew w _).trans (extNew _ _))
  have HW1 := hide (show Whole w1 w.heap.size 29 #[.slice m.a1 m.n1 m.c1, .slice m.a2 m.n2 m.c2] by rw [hw1]; exact (Whole.new w _ _).ext (extNew _ _))
  have HW2 := hide (show Whole w1 (w.heap.size + 1) 29 #[.slice m2.a1 m2.n1 m2.c1, .slice m2.a2 m2.n2 m2.c2] by
    have := Whole.new (w.alloc (.cells #[.slice m.a1 m.n1 m.c1, .slice m.a2 m.n2 m.c2] 29)) 29 #[.slice m2.a1 m2.n1 m2.c1, .slice m2.a2 m2.n2 m2.c2]
    rw [World.size_alloc] at this
    rw [hw1]
    exact this)
  have C0 := alive18_any hB HE1.out
  have CG := hide (fun W (hE : Ext w W) => refGreat18_any m W (h.later hE))
  have CH := hide (fun W (hE : Ext w W) => refGreat18_any m2 W (h2.later hE))
  cases hg : greatX m.x with
  | true =>
    rw [hg] at CG
    clear hg
    go_enter Try.func5, Try.ntmps5
    go_wp2_with fail
    rw [← hw1]
    clear hw1
    refine C0.mono ?_
    rintro e w2 ⟨rfl, hE2⟩
    have HE2 := hide (HE1.out.trans hE2)
    have C1 := CG.out w2 (HE1.out.trans hE2)
    have d0 := (HW1.out.ext hE2).at 0 (u := .slice m.a1 m.n1 m.c1) rfl
    have d1 := (HW1.out.ext hE2).at 1 (u := .slice m.a2 m.n2 m.c2) rfl
    clear C0 hE2
    go_wp2_with fail
    refine C1.mono ?_
    rintro e w3 ⟨rfl, hE3⟩
    go_wp2
    go_ret
    exact ⟨rfl, HE2.out.trans hE3⟩
  | false =>
    rw [hg] at CG
    cases hg2 : greatX m2.x with
    | true =>
      rw [hg2] at CH
      clear hg hg2
      go_enter Try.func5, Try.ntmps5
      go_wp2_with fail
      rw [← hw1]
      clear hw1
      refine C0.mono ?_
      rintro e w2 ⟨rfl, hE2⟩
      have HE2 := hide (HE1.out.trans hE2)
      have C1 := CG.out w2 (HE1.out.trans hE2)
      have d0 := (HW1.out.ext hE2).at 0 (u := .slice m.a1 m.n1 m.c1) rfl
      have d1 := (HW1.out.ext hE2).at 1 (u := .slice m.a2 m.n2 m.c2) rfl
      have HEw := hide hE2
      clear C0 hE2
      go_wp2_with fail
      refine C1.mono ?_
      rintro e w3 ⟨rfl, hE3⟩
      have C2 := CH.out w3 (HE2.out.trans hE3)
      have d2 := (HW2.out.ext (HEw.out.trans hE3)).at 0 (u := .slice m2.a1 m2.n1 m2.c1) rfl
      have d3 := (HW2.out.ext (HEw.out.trans hE3)).at 1 (u := .slice m2.a2 m2.n2 m2.c2) rfl
      have HE3 := hide (HE2.out.trans hE3)
      clear C1 d0 d1 hE3
      go_wp2_with fail
      refine C2.mono ?_
      rintro e w4 ⟨rfl, hE4⟩
      go_wp2
      go_ret
      exact ⟨rfl, HE3.out.trans hE4⟩
    | false =>
      rw [hg2] at CH
      obtain ⟨t1, t2, t3, t4⟩ := great_no hg
      obtain ⟨u1, u2, u3, u4⟩ := great_no hg2
      have hl1 := h.1.2.2.1
      have hl2 := h.2.2.2.1
      have hl3 := h2.1.2.2.1
      have hl4 := h2.2.2.2.1
      have CM0 := hide (fun W (hE : Ext w W) => hM bound m W hE hb (by omega) (by omega) t3 (fun l hl => by have := t4 l hl; omega) (h.later hE))
      have CR0 := hide (fun W (hE : Ext w W) => refMay18_any bound m W (h.later hE) (by omega) (fun s hs => by have := t3 s hs; omega) (fun l hl => by have := t4 l hl; omega))
      have CS0 := hide (fun W (hE : Ext w W) => hS m m2 W hE (by omega) (by omega) (by omega) (by omega) (fun l hl => by have := t4 l hl; omega) (h.later hE) (h2.later hE))
      have CT0 := hide (fun W (hE : Ext w W) => refSame18_any m m2 W (h.later hE) (h2.later hE) (by omega) (by omega) (fun l hl => by have := t4 l hl; omega))
      have CX0 := hide (fun W (hE : Ext w W) => hS m m W hE (by omega) (by omega) (by omega) (by omega) (fun l hl => by have := t4 l hl; omega) (h.later hE) (h.later hE))
      rw [decide_eq_true (rfl : m.x = m.x)] at CX0
      generalize mayE bound m.x = may at *
      generalize decide (m.x = m2.x) = same at *
      clear hg hg2 hB hM hS h h2 t1 t2 t3 t4 u1 u2 u3 u4 hl1 hl2 hl3 hl4 hb
      go_enter Try.func5, Try.ntmps5
      go_wp2_with fail
      rw [← hw1]
      clear hw1
      refine C0.mono ?_
      rintro e w2 ⟨rfl, hE2⟩
      have HE2 := hide (HE1.out.trans hE2)
      have C1 := CG.out w2 (HE1.out.trans hE2)
      have d0 := (HW1.out.ext hE2).at 0 (u := .slice m.a1 m.n1 m.c1) rfl
      have d1 := (HW1.out.ext hE2).at 1 (u := .slice m.a2 m.n2 m.c2) rfl
      have HEw := hide hE2
      clear C0 hE2
      go_wp2_with fail
      refine C1.mono ?_
      rintro e w3 ⟨rfl, hE3⟩
      have C2 := CH.out w3 (HE2.out.trans hE3)
      have d2 := (HW2.out.ext (HEw.out.trans hE3)).at 0 (u := .slice m2.a1 m2.n1 m2.c1) rfl
      have d3 := (HW2.out.ext (HEw.out.trans hE3)).at 1 (u := .slice m2.a2 m2.n2 m2.c2) rfl
      have HEw3 := hide (HEw.out.trans hE3)
      clear C1 d0 d1 hE3
      go_wp2_with fail
      refine C2.mono ?_
      rintro e w4 ⟨rfl, hE4⟩
      have HEw4 := hide (HEw3.out.trans hE4)
      clear C2 d2 d3 hE4
      go_upto_region 5 with fail
      have CM := hide (fun W (hE : Ext w1 W) => CM0.out W (HE1.out.trans hE))
      have CR := hide (fun W (hE : Ext w1 W) => CR0.out W (HE1.out.trans hE))
      have CS := hide (fun W (hE : Ext w1 W) => CS0.out W (HE1.out.trans hE))
      have CT := hide (fun W (hE : Ext w1 W) => CT0.out W (HE1.out.trans hE))
      have CX := hide (fun W (hE : Ext w1 W) => CX0.out W (HE1.out.trans hE))
      refine wp_region_T (fun W => Ext w1 W) 21 22 #[false, false, false, false, false, false, false, false, false, false, false, false, false, false, false, false, false, false, false, false, false, false] (by kernel_rfl) rfl rfl HEw4.out.drew ?_
      intro hS0
      refine wpAnyT_take 0 (some 15) (.int .i64 bound) #[true, false, false, false, false, false, false, false, false, false, false, false, false, false, false, false, false, false, false, false, false, false] rfl rfl rfl (by kernel_rfl) (fun _ _ _ h => h) hS0 (by rfl) (fun W hX => by go_simp) ?_
      simp only [Act.put, List.setIfInBounds_toArray, List.set_cons_zero, List.set_cons_succ]
      refine wpAnyT_take 1 (some 16) (.agg #[.slice m.a1 m.n1 m.c1, .slice m.a2 m.n2 m.c2]) #[true, true, false, false, false, false, false, false, false, false, false, false, false, false, false, false, false, false, false, false, false, false] rfl rfl rfl (by kernel_rfl) (fun _ _ _ h => h) hS0 (by rfl) (fun W hX => by have s0 := (HW1.out.ext hX).at 0 (u := .slice m.a1 m.n1 m.c1) rfl; have s1 := (HW1.out.ext hX).at 1 (u := .slice m.a2 m.n2 m.c2) rfl; go_simp) ?_
      simp only [Act.put, List.setIfInBounds_toArray, List.set_cons_zero, List.set_cons_succ]
      refine wpAnyT_take 3 (some 18) (.int .i64 bound) #[true, true, false, true, false, false, false, false, false, false, false, false, false, false, false, false, false, false, false, false, false, false] rfl rfl rfl (by kernel_rfl) (fun _ _ _ h => h) hS0 (by rfl) (fun W hX => by go_simp) ?_
      simp only [Act.put, List.setIfInBounds_toArray, List.set_cons_zero, List.set_cons_succ]
      refine wpAnyT_take 4 (some 19) (.agg #[.slice m.a1 m.n1 m.c1, .slice m.a2 m.n2 m.c2]) #[true, true, false, true, true, false, false, false, false, false, false, false, false, false, false, false, false, false, false, false, false, false] rfl rfl rfl (by kernel_rfl) (fun _ _ _ h => h) hS0 (by rfl) (fun W hX => by have s0 := (HW1.out.ext hX).at 0 (u := .slice m.a1 m.n1 m.c1) rfl; have s1 := (HW1.out.ext hX).at 1 (u := .slice m.a2 m.n2 m.c2) rfl; go_simp) ?_
      simp only [Act.put, List.setIfInBounds_toArray, List.set_cons_zero, List.set_cons_succ]
      refine wpAnyT_only 2 #[true, true, true, true, true, false, false, false, false, false, false, false, false, false, false, false, false, false, false, false, false, false] (by kernel_rfl) rfl rfl (by rfl) (fun K0 hK0 => ?_)
      go_simp
      go_at_call 14
      refine (CM.out _ hS0).mono ?_
      rintro e wc0 ⟨rfl, hC0⟩
      have hX0 := hS0.trans hC0
      refine hK0 _ _ (fun _ => hX0) ?_
      clear hK0 K0
      refine wpAnyT_only 5 #[true, true, true, true, true, true, false, false, false, false, false, false, false, false, false, false, false, false, false, false, false, false] (by kernel_rfl) rfl rfl (by rfl) (fun K1 hK1 => ?_)
      go_simp
      go_at_call 13
      refine (CR.out _ hX0).mono ?_
      rintro e wc1 ⟨rfl, hC1⟩
      have hX1 := hX0.trans hC1
      refine hK1 _ _ (fun _ => hX1) ?_
      clear hK1 K1
      refine wpAnyT_take 6 (some 21) (.bool true) #[true, true, true, true, true, true, true, false, false, false, false, false, false, false, false, false, false, false, false, false, false, false] rfl rfl rfl (by kernel_rfl) (fun _ _ _ h => h) hX1 (by rfl) (fun W hX => by go_simp) ?_
      simp only [Act.put, List.setIfInBounds_toArray, List.set_cons_zero, List.set_cons_succ]
      refine wpAnyT_take 7 (some 22) (.bool true) #[true, true, true, true, true, true, true, true, false, false, false, false, false, false, false, false, false, false, false, false, false, false] rfl rfl rfl (by kernel_rfl) (fun _ _ _ h => h) hX1 (by rfl) (fun W hX => by go_simp) ?_
      simp only [Act.put, List.setIfInBounds_toArray, List.set_cons_zero, List.set_cons_succ]
      refine wpAnyT_take 8 (some 23) (.agg #[.slice m.a1 m.n1 m.c1, .slice m.a2 m.n2 m.c2]) #[true, true, true, true, true, true, true, true, true, false, false, false, false, false, false, false, false, false, false, false, false, false] rfl rfl rfl (by kernel_rfl) (fun _ _ _ h => h) hX1 (by rfl) (fun W hX => by have s0 := (HW1.out.ext hX).at 0 (u := .slice m.a1 m.n1 m.c1) rfl; have s1 := (HW1.out.ext hX).at 1 (u := .slice m.a2 m.n2 m.c2) rfl; go_simp) ?_
      simp only [Act.put, List.setIfInBounds_toArray, List.set_cons_zero, List.set_cons_succ]
      refine wpAnyT_take 9 (some 24) (.agg #[.slice m2.a1 m2.n1 m2.c1, .slice m2.a2 m2.n2 m2.c2]) #[true, true, true, true, true, true, true, true, true, true, false, false, false, false, false, false, false, false, false, false, false, false] rfl rfl rfl (by kernel_rfl) (fun _ _ _ h => h) hX1 (by rfl) (fun W hX => by have s0 := (HW2.out.ext hX).at 0 (u := .slice m2.a1 m2.n1 m2.c1) rfl; have s1 := (HW2.out.ext hX).at 1 (u := .slice m2.a2 m2.n2 m2.c2) rfl; go_simp) ?_
      simp only [Act.put, List.setIfInBounds_toArray, List.set_cons_zero, List.set_cons_succ]
      refine wpAnyT_take 11 (some 26) (.agg #[.slice m.a1 m.n1 m.c1, .slice m.a2 m.n2 m.c2]) #[true, true, true, true, true, true, true, true, true, true, false, true, false, false, false, false, false, false, false, false, false, false] rfl rfl rfl (by kernel_rfl) (fun _ _ _ h => h) hX1 (by rfl) (fun W hX => by have s0 := (HW1.out.ext hX).at 0 (u := .slice m.a1 m.n1 m.c1) rfl; have s1 := (HW1.out.ext hX).at 1 (u := .slice m.a2 m.n2 m.c2) rfl; go_simp) ?_
      simp only [Act.put, List.setIfInBounds_toArray, List.set_cons_zero, List.set_cons_succ]
      refine wpAnyT_take 12 (some 27) (.agg #[.slice m2.a1 m2.n1 m2.c1, .slice m2.a2 m2.n2 m2.c2]) #[true, true, true, true, true, true, true, true, true, true, false, true, true, false, false, false, false, false, false, false, false, false] rfl rfl rfl (by kernel_rfl) (fun _ _ _ h => h) hX1 (by rfl) (fun W hX => by have s0 := (HW2.out.ext hX).at 0 (u := .slice m2.a1 m2.n1 m2.c1) rfl; have s1 := (HW2.out.ext hX).at 1 (u := .slice m2.a2 m2.n2 m2.c2) rfl; go_simp) ?_
      simp only [Act.put, List.setIfInBounds_toArray, List.set_cons_zero, List.set_cons_succ]
      refine wpAnyT_only 10 #[true, true, true, true, true, true, true, true, true, true, true, true, true, false, false, false, false, false, false, false, false, false] (by kernel_rfl) rfl rfl (by rfl) (fun K2 hK2 => ?_)
      go_simp
      go_at_call 19
      refine (CS.out _ hX1).mono ?_
      rintro e wc2 ⟨rfl, hC2⟩
      have hX2 := hX1.trans hC2
      refine hK2 _ _ (fun _ => hX2) ?_
      clear hK2 K2
      refine wpAnyT_only 13 #[true, true, true, true, true, true, true, true, true, true, true, true, true, true, false, false, false, false, false, false, false, false] (by kernel_rfl) rfl rfl (by rfl) (fun K3 hK3 => ?_)
      go_simp
      go_at_call 10
      refine (CT.out _ hX2).mono ?_
      rintro e wc3 ⟨rfl, hC3⟩
      have hX3 := hX2.trans hC3
      refine hK3 _ _ (fun _ => hX3) ?_
      clear hK3 K3
      refine wpAnyT_take 14 (some 29) (.bool true) #[true, true, true, true, true, true, true, true, true, true, true, true, true, true, true, false, false, false, false, false, false, false] rfl rfl rfl (by kernel_rfl) (fun _ _ _ h => h) hX3 (by rfl) (fun W hX => by go_simp) ?_
      simp only [Act.put, List.setIfInBounds_toArray, List.set_cons_zero, List.set_cons_succ]
      refine wpAnyT_take 15 (some 30) (.bool true) #[true, true, true, true, true, true, true, true, true, true, true, true, true, true, true, true, false, false, false, false, false, false] rfl rfl rfl (by kernel_rfl) (fun _ _ _ h => h) hX3 (by rfl) (fun W hX => by go_simp) ?_
      simp only [Act.put, List.setIfInBounds_toArray, List.set_cons_zero, List.set_cons_succ]
      refine wpAnyT_take 16 (some 31) (.bool true) #[true, true, true, true, true, true, true, true, true, true, true, true, true, true, true, true, true, false, false, false, false, false] rfl rfl rfl (by kernel_rfl) (fun _ _ _ h => h) hX3 (by rfl) (fun W hX => by go_simp) ?_
      simp only [Act.put, List.setIfInBounds_toArray, List.set_cons_zero, List.set_cons_succ]
      refine wpAnyT_take 17 (some 32) (.agg #[.slice m.a1 m.n1 m.c1, .slice m.a2 m.n2 m.c2]) #[true, true, true, true, true, true, true, true, true, true, true, true, true, true, true, true, true, true, false, false, false, false] rfl rfl rfl (by kernel_rfl) (fun _ _ _ h => h) hX3 (by rfl) (fun W hX => by have s0 := (HW1.out.ext hX).at 0 (u := .slice m.a1 m.n1 m.c1) rfl; have s1 := (HW1.out.ext hX).at 1 (u := .slice m.a2 m.n2 m.c2) rfl; go_simp) ?_
      simp only [Act.put, List.setIfInBounds_toArray, List.set_cons_zero, List.set_cons_succ]
      refine wpAnyT_take 18 (some 33) (.agg #[.slice m.a1 m.n1 m.c1, .slice m.a2 m.n2 m.c2]) #[true, true, true, true, true, true, true, true, true, true, true, true, true, true, true, true, true, true, true, false, false, false] rfl rfl rfl (by kernel_rfl) (fun _ _ _ h => h) hX3 (by rfl) (fun W hX => by have s0 := (HW1.out.ext hX).at 0 (u := .slice m.a1 m.n1 m.c1) rfl; have s1 := (HW1.out.ext hX).at 1 (u := .slice m.a2 m.n2 m.c2) rfl; go_simp) ?_
      simp only [Act.put, List.setIfInBounds_toArray, List.set_cons_zero, List.set_cons_succ]
      refine wpAnyT_only 19 #[true, true, true, true, true, true, true, true, true, true, true, true, true, true, true, true, true, true, true, true, false, false] (by kernel_rfl) rfl rfl (by rfl) (fun K4 hK4 => ?_)
      go_simp
      go_at_call 19
      refine (CX.out _ hX3).mono ?_
      rintro e wc4 ⟨rfl, hC4⟩
      have hX4 := hX3.trans hC4
      refine hK4 _ _ (fun _ => hX4) ?_
      clear hK4 K4
      refine wpAnyT_take 20 (some 35) (.bool true) #[true, true, true, true, true, true, true, true, true, true, true, true, true, true, true, true, true, true, true, true, true, false] rfl rfl rfl (by kernel_rfl) (fun _ _ _ h => h) hX4 (by rfl) (fun W hX => by go_simp) ?_
      simp only [Act.put, List.setIfInBounds_toArray, List.set_cons_zero, List.set_cons_succ]
      refine wpAnyT_only 21 #[true, true, true, true, true, true, true, true, true, true, true, true, true, true, true, true, true, true, true, true, true, true] (by kernel_rfl) rfl rfl (by rfl) (fun KL hKL => ?_)
      go_simp
      refine hKL _ _ (fun h => absurd h (by decide)) (wpAnyT_done (by kernel_rfl) ?_ _)
      clear hKL KL
      go_wp2_with fail
      go_ret
      exact ⟨rfl, HE1.out.trans hX4⟩
end Go.Proofs.Ytcphapdjimeoaaa

namespace Go.Proofs.Ytcphapdjimeoaaa
open Go.RowKit Pst Wrd

theorem IntsAt.first18 {w : World} {B n : Nat} {A : Option Addr} {r : List Int} (h : IntsAt w B A n r) {k : Nat} (hk : k ≤ n) : IntsAt w B A k (r.take k) := by
  refine ⟨by rw [List.length_take, h.1]; omega, ?_⟩
  rcases h.2 with h0 | ⟨b, off, hA, hB, hc⟩
  · exact .inl (by omega)
  · refine .inr ⟨b, off, hA, hB, fun i hi => ?_⟩
    rw [hc i (by omega)]
    simp [List.getD_eq_getElem?_getD, hi]
theorem run_first18 (W : World) (a : Option Addr) (n c : Nat) (k : IntKind) (h : Int) (h0 : 0 ≤ h) (h2 : h ≤ c) :
    (Instr.slice 36 (.slice a n c) none (some (.int k h)) none).run Try.prog W = .ok (.slice a h.toNat c) W := by
  rw [run_slice_h (P := Try.prog) (w := W) 36 a n c (by kernel_rfl) k h h0 h2]
  have hs : (sizeOf (Try.prog.elem 36)).run Try.prog W = .ok 1 W := by kernel_rfl
  rw [hs]
  simp [Result.andThen, sliced]
  intro _
  cases a with
  | none => rfl
  | some x => obtain ⟨b, o, s⟩ := x; cases s <;> rfl
theorem TextsAt.cellAt {w : World} {A : Option Addr} {n i : Nat} {L : List (List UInt8)} (h : TextsAt w w.heap.size A n L) (hi : i < n) : ∃ b o, A = some ⟨b, o, none⟩ ∧ ∀ W, Ext w W → W.cell? ⟨b, o + i, none⟩ = some (.string ⟨(L.getD i []).toArray⟩) := by
  rcases h.2 with h0 | ⟨b, o, e, hb, hc⟩
  · omega
  · exact ⟨b, o, e, fun W hE => (hE.cell hb).trans (hc i hi)⟩
theorem ILists.cellAt {w : World} {A : Option Addr} {n i : Nat} {L : List (List Int)} (h : ILists w w.heap.size A n L) (hi : i < n) : ∃ b o a c, A = some ⟨b, o, none⟩ ∧ (∀ W, Ext w W → W.cell? ⟨b, o + i, none⟩ = some (.slice a (L.getD i []).length c)) ∧ (L.getD i []).length ≤ c ∧ c ≤ maxLen ∧ ∀ W, Ext w W → IntsAt W W.heap.size a (L.getD i []).length (L.getD i []) := by
  obtain ⟨b, o, a, c, e, h1, h2, h3, h4⟩ := h.at hi
  have hb := World.block_lt_of_cell? w ⟨b, o + i, none⟩ h1
  exact ⟨b, o, a, c, e, fun W hE => (hE.cell hb).trans h1, h2, h3, fun W hE => h4.later hE⟩
/-- Two lists, each put into an index of its own. -/
theorem same_lists {W : World} (g1 g2 : Nat) (a3 a5 : Option Addr) (c3 c5 : Nat) (il : List Int) (hl : il.length ≤ 1000) (h1 : Whole W g1 36 #[.slice a5 il.length c5]) (h2 : Whole W g2 36 #[.slice a3 il.length c3]) (k5 : il.length ≤ c5 ∧ c5 ≤ maxLen) (k3 : il.length ≤ c3 ∧ c3 ≤ maxLen) (q5 : IntsAt W W.heap.size a5 il.length il) (q3 : IntsAt W W.heap.size a3 il.length il) :
    Calls Try.prog 10 #[.agg #[.slice none 0 0, .slice (some ⟨g1, 0, none⟩) 1 1], .agg #[.slice none 0 0, .slice (some ⟨g2, 0, none⟩) 1 1]] W fun e w' => e = .returned (.bool true) ∧ Ext W w' := by
  have L : ∀ g a c, Whole W g 36 #[.slice a il.length c] → il.length ≤ c ∧ c ≤ maxLen → IntsAt W W.heap.size a il.length il → (IxV.mk none 0 0 (some ⟨g, 0, none⟩) 1 1 ⟨[], [il]⟩).lies W := fun g a c hW hc hI =>
    ⟨⟨Nat.le_refl _, by show 0 ≤ maxLen; omega, rfl, .inl rfl⟩, Nat.le_refl _, by show 1 ≤ maxLen; unfold maxLen; omega, rfl, .inr ⟨g, 0, rfl, hW.lt, fun i hi => by
      dsimp only at hi
      obtain rfl : i = 0 := by omega
      exact ⟨_, by rw [Nat.zero_add]; exact hW.at 0 rfl, a, c, rfl, hc.1, hc.2, hI⟩⟩⟩
  have C := refSame18_any _ _ W (L g1 a5 c5 h1 k5 q5) (L g2 a3 c3 h2 k3 q3) (by dsimp only; omega) (by dsimp only; omega) (by intro x hx; simp at hx; rw [hx]; omega)
  rw [decide_eq_true rfl] at C
  exact C

namespace Pst
theorem more_row {X G : List (List UInt8)} {k n : Nat} (hk : k < G.length) (h : X.drop n = (G.drop k).filter fun s => decide (s ∈ X)) :
    (G.getD k [] ∈ X → n < X.length ∧ X.getD n [] = G.getD k [] ∧ X.drop (n + 1) = (G.drop (k + 1)).filter fun s => decide (s ∈ X)) ∧ (G.getD k [] ∉ X → X.drop n = (G.drop (k + 1)).filter fun s => decide (s ∈ X)) := by
  have e : G.drop k = G.getD k [] :: G.drop (k + 1) := by
    rw [List.drop_eq_getElem_cons hk, List.getD_eq_getElem?_getD, List.getElem?_eq_getElem hk]
    rfl
  rw [e] at h
  refine ⟨fun hin => ?_, fun hno => ?_⟩
  · rw [List.filter_cons_of_pos (by simpa using hin)] at h
    have hn : n < X.length := by
      rcases Nat.lt_or_ge n X.length with h1 | h1
      · exact h1
      · rw [List.drop_eq_nil_of_le h1] at h; cases h
    rw [List.drop_eq_getElem_cons hn] at h
    obtain ⟨h1, h2⟩ := List.cons.inj h
    exact ⟨hn, by rw [← h1, List.getD_eq_getElem?_getD, List.getElem?_eq_getElem hn]; rfl, h2⟩
  · rw [List.filter_cons_of_neg (by simpa using hno)] at h
    exact h
theorem more_done {X G : List (List UInt8)} {n : Nat} (hn : n ≤ X.length) (h : X.drop n = (G.drop G.length).filter fun s => decide (s ∈ X)) : n = X.length := by
  rw [List.drop_length, List.filter_nil] at h
  have := congrArg List.length h
  rw [List.length_drop, List.length_nil] at this
  omega
end Pst

set_option maxHeartbeats 8000000 in
set_option maxRecDepth 100000 in
theorem postMore_walk0 (A : Option Addr) (n c : Nat) (l : List Rc) (r : Rc) (w : World) (hB : PBuildC w) (hT : PTermsC w) (hn : n ≤ c) (hc : c ≤ maxLen) (h : RcsAt w w.heap.size A n l) (hr : r.ok) :
    Calls Try.prog 7 #[.slice A n c, .agg #[.int .u64 (r.time : Int), .int .u8 (r.lv.toNat : Int), .string ⟨r.src.toArray⟩, .string ⟨r.text.toArray⟩]] w fun e w' => e = .returned (.bool true) ∧ Ext w w' := by
  obtain ⟨w1, hw1⟩ : ∃ w1, w1 = w.alloc (.cells #[.int .u64 (r.time : Int), .int .u8 (r.lv.toNat : Int), .string ⟨r.src.toArray⟩, .string ⟨r.text.toArray⟩] 41) := ⟨_, rfl⟩
  have HE1 := hide (show Ext w w1 by rw [hw1]; exact extNew w _)
  have HW := hide (show Whole w1 w.heap.size 41 #[.int .u64 (r.time : Int), .int .u8 (r.lv.toNat : Int), .string ⟨r.src.toArray⟩, .string ⟨r.text.toArray⟩] by rw [hw1]; exact Whole.new w _ _)
  have C0 := alive18_any hB HE1.out
  have CG := hide (fun W (hE : Ext w W) => refGreat17_any A n c l 40 3000 W (h.later hE) (by omega))
  have hl := h.1
  cases hg : Rcs.greatE l 40 3000 with
  | true =>
    rw [hg] at CG
    clear hg hl
    go_enter Try.func7, Try.ntmps7
    go_wp2_with fail
    rw [← hw1]
    clear hw1
    refine C0.mono ?_
    rintro e w2 ⟨rfl, hE2⟩
    have HE2 := hide (HE1.out.trans hE2)
    have C1 := CG.out w2 HE2.out
    clear C0 hE2
    go_wp2_with fail
    refine C1.mono ?_
    rintro e w3 ⟨rfl, hQ3⟩
    go_wp2
    go_ret
    exact ⟨rfl, HE2.out.trans hQ3.ext⟩
  | false =>
    rw [hg] at CG
    by_cases hbig : 500 < r.text.length ∨ 500 < r.src.length
    · have hbt : (500 : Int) < (r.text.length : Int) ∨ ¬ (500 : Int) < (r.text.length : Int) ∧ (500 : Int) < (r.src.length : Int) := by omega
      clear hg hl hbig
      rcases hbt with hb1 | ⟨hb1, hb2⟩
      all_goals
        go_enter Try.func7, Try.ntmps7
        go_wp2_with fail
        rw [← hw1]
        clear hw1
        refine C0.mono ?_
        rintro e w2 ⟨rfl, hE2⟩
        have HE2 := hide (HE1.out.trans hE2)
        have C1 := CG.out w2 HE2.out
        have HF2 := hide hE2
        clear C0 hE2
        go_wp2_with fail
        refine C1.mono ?_
        rintro e w3 ⟨rfl, hQ3⟩
        have d2 := (HW.out.ext (HF2.out.trans hQ3.ext)).at 2 (u := .string ⟨r.src.toArray⟩) rfl
        have d3 := (HW.out.ext (HF2.out.trans hQ3.ext)).at 3 (u := .string ⟨r.text.toArray⟩) rfl
        have HQ3 := hide hQ3.ext
        clear C1 hQ3
        go_wp2
        go_ret
        exact ⟨rfl, HE2.out.trans HQ3.out⟩
    obtain ⟨g1, g2⟩ := Rcs.great_no hg (by omega)
    rw [hl] at g1
    have hbtI : ¬ (500 : Int) < (r.text.length : Int) := by omega
    have hbsI : ¬ (500 : Int) < (r.src.length : Int) := by omega
    have hwa : Rcs.weightE (l ++ [r]) = Rcs.weightE l + (16 + r.src.length + r.text.length) := by unfold Rcs.weightE; rw [List.map_append, List.sum_append]; simp
    have CB := hide (fun W (hE : Ext w W) => hB l A n c W hE hn hc (by omega) (h.later hE))
    have CB2 := hide (fun W (hE : Ext w W) (A' : Option Addr) (c' : Nat) (h1 : (l ++ [r]).length ≤ c') (h2 : c' ≤ maxLen) (h3 : RcsAt W W.heap.size A' (l ++ [r]).length (l ++ [r])) => hB (l ++ [r]) A' _ c' W hE h1 h2 (by omega) h3)
    have CT := hide (fun W (hE : Ext w W) => hT (r.time : Int) (r.lv.toNat : Int) r.src r.text W hE (by omega) (by omega))
    have HA := hide h
    have HLn := hide hl
    have HOk := hide (show ∀ x, x ∈ l ++ [r] → x.ok from fun x hx => by
      rcases List.mem_append.1 hx with hx | hx
      · exact h.2.2 x hx
      · simp at hx; rw [hx]; exact hr)
    have hn40 : n ≤ 40 := by omega
    unfold BuildTo at CB CB2
    unfold MadeTx at CT
    have hgl := gather_len l
    have hgl2 := gather_len (l ++ [r])
    have HGl := hide (show (gather l).length ≤ 3000 ∧ (gather (l ++ [r])).length ≤ 5000 from ⟨by omega, by omega⟩)
    have hte : termsE r.text r.src = termsOf r := rfl
    rw [hte] at CT
    clear hg g1 g2 hB hT h hbig hwa hgl hgl2 hr hte hl
    go_enter Try.func7, Try.ntmps7
    go_wp2_with fail
    rw [← hw1]
    clear hw1
    refine C0.mono ?_
    rintro e w2 ⟨rfl, hE2⟩
    have HE2 := hide (HE1.out.trans hE2)
    have C1 := CG.out w2 HE2.out
    have HF2 := hide hE2
    clear C0 hE2
    go_wp2_with fail
    refine C1.mono ?_
    rintro e w3 ⟨rfl, hQ3⟩
    have HF3 := hide (HF2.out.trans hQ3.ext)
    have d2 := (HW.out.ext HF3.out).at 2 (u := .string ⟨r.src.toArray⟩) rfl
    have d3 := (HW.out.ext HF3.out).at 3 (u := .string ⟨r.text.toArray⟩) rfl
    have HE3 := hide (HE2.out.trans hQ3.ext)
    clear C1 hQ3
    go_upto_region 6 with fail
    clear d2 d3 hbtI hbsI
    go_cut [5] (fun v wx => ∃ A' c', v = .slice A' (l ++ [r]).length c' ∧ (l ++ [r]).length ≤ c' ∧ c' ≤ maxLen ∧ RcsAt wx wx.heap.size A' (l ++ [r]).length (l ++ [r]) ∧ Ext w3 wx)
    case first =>
      refine wp_region_T (fun W => Ext w3 W) 6 7 #[false, false, false, false, false, false, false] (by kernel_rfl) rfl rfl (Ext.refl w3).drew ?_
      intro hS0
      refine wpAnyT_take 0 (some 28) (.slice none 0 0) #[true, false, false, false, false, false, false] rfl rfl rfl (by kernel_rfl) (fun _ _ _ h => h) hS0 (by rfl) (fun W hX => by go_simp) ?_
      simp only [Act.put, List.setIfInBounds_toArray, List.set_cons_zero, List.set_cons_succ]
      refine wpAnyT_take 1 (some 29) (.slice A n c) #[true, true, false, false, false, false, false] rfl rfl rfl (by kernel_rfl) (fun _ _ _ h => h) hS0 (by rfl) (fun W hX => by go_simp) ?_
      simp only [Act.put, List.setIfInBounds_toArray, List.set_cons_zero, List.set_cons_succ]
      refine wpAnyT_take 3 (some 31) (.agg #[.int .u64 (r.time : Int), .int .u8 (r.lv.toNat : Int), .string ⟨r.src.toArray⟩, .string ⟨r.text.toArray⟩]) #[true, true, false, true, false, false, false] rfl rfl rfl (by kernel_rfl) (fun _ _ _ h => h) hS0 (by rfl) (fun W hX => by have s0 := (HW.out.ext (HF3.out.trans hX)).at 0 (u := .int .u64 (r.time : Int)) rfl; have s1 := (HW.out.ext (HF3.out.trans hX)).at 1 (u := .int .u8 (r.lv.toNat : Int)) rfl; have s2 := (HW.out.ext (HF3.out.trans hX)).at 2 (u := .string ⟨r.src.toArray⟩) rfl; have s3 := (HW.out.ext (HF3.out.trans hX)).at 3 (u := .string ⟨r.text.toArray⟩) rfl; go_simp) ?_
      simp only [Act.put, List.setIfInBounds_toArray, List.set_cons_zero, List.set_cons_succ]
      generalize hwd : w3.drew = wd at *
      clear hwd
      refine wpAnyT_two 2 4 #[true, true, true, true, false, false, false] #[true, true, false, true, true, false, false] (by kernel_rfl) rfl rfl rfl rfl (by rfl) (by rfl) (fun K0 hK0 => ?_) (fun K0 hK0 => ?_)
      · refine wp_appRcs (base := w3.heap.size) (v := .slice none 0 0) (m := n) (k := l) (.tmp 28) (.tmp 29) rfl rfl (OwnRc.nil _ _) rfl (HA.out.later (HE3.out.trans hS0)) (by rw [List.length_nil]; omega) hS0.le ?_
        intro v4 w4 hO4 hG4 hN4
        have hE4 : Ext w3 w4 := Below.grown hS0 hG4 hS0.le (fun k hk => by simp [Value.ownBlock] at hk)
        rw [List.nil_append] at hO4
        obtain ⟨A4, c4, hv4⟩ : ∃ A4 c4, v4 = .slice A4 l.length c4 := by
          rcases hO4.2 with ⟨rfl, h0⟩ | ⟨g, cap, cur, rfl, _⟩
          · exact ⟨none, 0, by rw [h0]⟩
          · exact ⟨_, cap, rfl⟩
        subst hv4
        change K0 (Act.put _ (some 30) _) _
        refine hK0 _ _ (fun _ => hE4) ?_
        simp only [Act.put, List.setIfInBounds_toArray, List.set_cons_zero, List.set_cons_succ]
        clear hK0 K0 hG4 hN4
        refine wpAnyT_only 4 #[true, true, true, true, true, false, false] (by kernel_rfl) rfl rfl (by rfl) (fun K1 hK1 => ?_)
        go_simp
        have hE5 := extNew w4 (.cells #[.int .u64 (r.time : Int), .int .u8 (r.lv.toNat : Int), .string ⟨r.src.toArray⟩, .string ⟨r.text.toArray⟩] 41)
        have hR5 := rcsNew w4 [r] #[.int .u64 (r.time : Int), .int .u8 (r.lv.toNat : Int), .string ⟨r.src.toArray⟩, .string ⟨r.text.toArray⟩] 41 (0, 0) rfl 1 rfl (by intro x hx; exact HOk.out x (by simp at hx; simp [hx]))
        refine hK1 _ _ (fun _ => hE4.trans hE5) ?_
        clear hK1 K1
        refine wpAnyT_only 5 #[true, true, true, true, true, true, false] (by kernel_rfl) rfl rfl (by rfl) (fun K2 hK2 => ?_)
        refine wp_appRcs (.tmp 30) (.tmp 32) rfl rfl (hO4.ext hE5) rfl hR5 (by have h0 := HA.out.1; show l.length + 1 ≤ 1000000; omega) (hE4.trans hE5).le ?_
        intro v6 w6 hO6 hG6 hN6
        have hE6 : Ext w3 w6 := Below.grown (hE4.trans hE5) hG6 (hE4.trans hE5).le (fun k hk => (hO4.lt k hk).1)
        change K2 (Act.put _ (some 33) _) _
        obtain ⟨A6, c6, hv6, q1, q2, q3⟩ := hO6.form HOk.out
        subst hv6
        refine hK2 _ _ (fun _ => hE6) ?_
        simp only [Act.put, List.setIfInBounds_toArray, List.set_cons_zero, List.set_cons_succ]
        clear hK2 K2
        refine wpAnyT_only 6 #[true, true, true, true, true, true, true] (by kernel_rfl) rfl rfl (by rfl) (fun K3 hK3 => ?_)
        go_simp
        refine hK3 _ _ (fun h => absurd h (by decide)) (wpAnyT_done (by kernel_rfl) ?_ _)
        clear hK3 K3
        go_wp2_with fail
        go_meet
        exact ⟨A6, c6, by first | rfl | (rw [List.length_append, List.length_singleton, HLn.out]), q1, q2, q3, hE6⟩
      · go_simp
        have hE5 := extNew wd (.cells #[.int .u64 (r.time : Int), .int .u8 (r.lv.toNat : Int), .string ⟨r.src.toArray⟩, .string ⟨r.text.toArray⟩] 41)
        have hR5 := rcsNew wd [r] #[.int .u64 (r.time : Int), .int .u8 (r.lv.toNat : Int), .string ⟨r.src.toArray⟩, .string ⟨r.text.toArray⟩] 41 (0, 0) rfl 1 rfl (by intro x hx; exact HOk.out x (by simp at hx; simp [hx]))
        obtain ⟨w5, hw5⟩ : ∃ w5, w5 = wd.alloc (.cells #[.int .u64 (r.time : Int), .int .u8 (r.lv.toNat : Int), .string ⟨r.src.toArray⟩, .string ⟨r.text.toArray⟩] 41) := ⟨_, rfl⟩
        rw [← hw5] at hE5 hR5 ⊢
        clear hw5
        refine hK0 _ _ (fun _ => hS0.trans hE5) ?_
        clear hK0 K0
        refine wpAnyT_only 2 #[true, true, true, true, true, false, false] (by kernel_rfl) rfl rfl (by rfl) (fun K1 hK1 => ?_)
        refine wp_appRcs (base := w3.heap.size) (v := .slice none 0 0) (m := n) (k := l) (.tmp 28) (.tmp 29) rfl rfl (OwnRc.nil _ _) rfl (HA.out.later (HE3.out.trans (hS0.trans hE5))) (by rw [List.length_nil]; omega) (hS0.trans hE5).le ?_
        intro v4 w4 hO4 hG4 hN4
        have hF4 : Ext w5 w4 := Below.grown (Ext.refl w5) hG4 (Nat.le_refl _) (fun k hk => by simp [Value.ownBlock] at hk)
        have hE4 := (hS0.trans hE5).trans hF4
        rw [List.nil_append] at hO4
        obtain ⟨A4, c4, hv4⟩ : ∃ A4 c4, v4 = .slice A4 l.length c4 := by
          rcases hO4.2 with ⟨rfl, h0⟩ | ⟨g, cap, cur, rfl, _⟩
          · exact ⟨none, 0, by rw [h0]⟩
          · exact ⟨_, cap, rfl⟩
        subst hv4
        change K1 (Act.put _ (some 30) _) _
        refine hK1 _ _ (fun _ => hE4) ?_
        simp only [Act.put, List.setIfInBounds_toArray, List.set_cons_zero, List.set_cons_succ]
        clear hK1 K1 hG4 hN4
        refine wpAnyT_only 5 #[true, true, true, true, true, true, false] (by kernel_rfl) rfl rfl (by rfl) (fun K2 hK2 => ?_)
        refine wp_appRcs (.tmp 30) (.tmp 32) rfl rfl hO4 rfl (hR5.later hF4) (by have := HA.out.1; omega) hE4.le ?_
        intro v6 w6 hO6 hG6 hN6
        have hE6 : Ext w3 w6 := Below.grown hE4 hG6 hE4.le (fun k hk => (hO4.lt k hk).1)
        change K2 (Act.put _ (some 33) _) _
        obtain ⟨A6, c6, hv6, q1, q2, q3⟩ := hO6.form HOk.out
        subst hv6
        refine hK2 _ _ (fun _ => hE6) ?_
        simp only [Act.put, List.setIfInBounds_toArray, List.set_cons_zero, List.set_cons_succ]
        clear hK2 K2
        refine wpAnyT_only 6 #[true, true, true, true, true, true, true] (by kernel_rfl) rfl rfl (by rfl) (fun K3 hK3 => ?_)
        go_simp
        refine hK3 _ _ (fun h => absurd h (by decide)) (wpAnyT_done (by kernel_rfl) ?_ _)
        clear hK3 K3
        go_wp2_with fail
        go_meet
        exact ⟨A6, c6, by first | rfl | (rw [List.length_append, List.length_singleton, HLn.out]), q1, q2, q3, hE6⟩
    case rest =>
      obtain ⟨A4, c4, rfl, hk1, hk2, hL4, hE4⟩ := hcut
      have HE4 := hide (HE3.out.trans hE4)
      have HF4 := hide (HF3.out.trans hE4)
      have HL4 := hide hL4
      have HK4 := hide (show (l ++ [r]).length ≤ c4 ∧ c4 ≤ maxLen from ⟨hk1, hk2⟩)
      have C4 := CB.out wc HE4.out
      obtain ⟨n1, hn1⟩ : ∃ n1, n1 = (l ++ [r]).length := ⟨_, rfl⟩
      rw [← hn1]
      have HN1 := hide hn1
      clear hk1 hk2 hL4 hE4 hn1
      go_wp2_with fail
      refine C4.mono ?_
      rintro e w5 ⟨mx, rfl, hx, hmx, hE5⟩
      have HX := hide hx
      have HMx := hide hmx
      have HE5 := hide (HE4.out.trans hE5)
      have HF5 := hide (HF4.out.trans hE5)
      have C5 := CB2.out w5 HE5.out A4 c4 HK4.out.1 HK4.out.2 (HL4.out.later hE5)
      rw [← HN1.out] at C5
      clear C4 hx hmx hE5
      go_wp2_with fail
      refine C5.mono ?_
      rintro e w6 ⟨my, rfl, hy, hmy, hE6⟩
      have HY := hide hy
      have HMy := hide hmy
      have HMx6 := hide (HMx.out.later hE6)
      have HE6 := hide (HE5.out.trans hE6)
      have HF6 := hide (HF5.out.trans hE6)
      clear C5 hy hmy hE6
      obtain ⟨w8, hw8⟩ : ∃ w8, w8 = (w6.alloc (.cells #[.slice mx.a1 mx.n1 mx.c1, .slice mx.a2 mx.n2 mx.c2] 29)).alloc (.cells #[.slice my.a1 my.n1 my.c1, .slice my.a2 my.n2 my.c2] 29) := ⟨_, rfl⟩
      have hE8 : Ext w6 w8 := by rw [hw8]; exact (extNew w6 _).trans (extNew _ _)
      have HWx := hide (show Whole w8 w6.heap.size 29 #[.slice mx.a1 mx.n1 mx.c1, .slice mx.a2 mx.n2 mx.c2] by rw [hw8]; exact (Whole.new w6 _ _).ext (extNew _ _))
      have HWy := hide (show Whole w8 (w6.heap.size + 1) 29 #[.slice my.a1 my.n1 my.c1, .slice my.a2 my.n2 my.c2] by
        have := Whole.new (w6.alloc (.cells #[.slice mx.a1 mx.n1 mx.c1, .slice mx.a2 mx.n2 mx.c2] 29)) 29 #[.slice my.a1 my.n1 my.c1, .slice my.a2 my.n2 my.c2]
        rw [World.size_alloc] at this
        rw [hw8]
        exact this)
      have HE8 := hide (HE6.out.trans hE8)
      have hWr := HW.out.ext (HF6.out.trans hE8)
      have d0 := hWr.at 0 (u := .int .u64 (r.time : Int)) rfl
      have d1 := hWr.at 1 (u := .int .u8 (r.lv.toNat : Int)) rfl
      have d2 := hWr.at 2 (u := .string ⟨r.src.toArray⟩) rfl
      have d3 := hWr.at 3 (u := .string ⟨r.text.toArray⟩) rfl
      have C6 := CT.out w8 HE8.out
      unfold recV at C6
      have HMx8 := hide (HMx6.out.later hE8)
      have HMy8 := hide (HMy.out.later hE8)
      rw [hw8] at d0 d1 d2 d3
      clear hWr hE8 HMx HMx6 HMy
      go_wp2_with fail
      rw [← hw8]
      refine C6.mono ?_
      rintro e w9 ⟨A9, c9, rfl, -, -, hT9, hE9⟩
      have HT9 := hide hT9
      have HE9 := hide hE9
      clear C6 hT9 d0 d1 d2 d3 hw8
      have hmx9 := HMx8.out.later hE9
      have hmy9 := HMy8.out.later hE9
      have HX9 := HX.out
      have HY9 := HY.out
      obtain ⟨ax, nx, kx, bx, mxn, cx, xx⟩ := mx
      obtain ⟨ay, ny, ky, by_, myn, cy, yy⟩ := my
      dsimp only at HX9 HY9 HWx HWy hmx9 hmy9 ⊢
      subst HX9
      subst HY9
      obtain ⟨⟨-, -, hTx⟩, -, -, hLx⟩ := hmx9
      obtain ⟨⟨-, -, hTy⟩, -, -, hLy⟩ := hmy9
      dsimp only at hTx hLx hTy hLy
      change TextsAt w9 w9.heap.size ax nx (gather l) at hTx
      change TextsAt w9 w9.heap.size ay ny (gather (l ++ [r])) at hTy
      change ILists w9 w9.heap.size bx mxn ((gather l).map (idsE l)) at hLx
      change ILists w9 w9.heap.size by_ myn ((gather (l ++ [r])).map (idsE (l ++ [r]))) at hLy
      have hx1 := hTx.1
      have hy1 := hTy.1
      have hx2 := hLx.1
      have hy2 := hLy.1
      rw [List.length_map] at hx2 hy2
      obtain rfl : mxn = nx := by omega
      obtain rfl : myn = ny := by omega
      have HTx := hide hTx
      have HTy := hide hTy
      have HLx := hide hLx
      have HLy := hide hLy
      have HGx := hide hx1
      have HGy := hide hy1
      have hnx : mxn ≤ 3000 := by have := HGl.out.1; omega
      have hny : myn ≤ 5000 := by have := HGl.out.2; omega
      have HWx9 := hide (HWx.out.ext hE9)
      have HWy9 := hide (HWy.out.ext hE9)
      have HEw9 := hide (HE8.out.trans hE9)
      have hts := terms_few r
      have HTs := hide (show (termsOf r).length ≤ 1000000 by omega)
      have CH := hide (fun (s : List UInt8) W (hE : Ext w9 W) => refHas15_any A9 (termsOf r).length c9 (termsOf r) s W (HT9.out.later hE) HTs.out)
      have HMore := hide (show ∀ k q, k < myn → (gather l).drop q = ((gather (l ++ [r])).drop k).filter (fun s => decide (s ∈ gather l)) → _ from fun k q hk hh => more_row (X := gather l) (G := gather (l ++ [r])) (k := k) (n := q) (by omega) hh)
      have HDone := hide (show ∀ q, q ≤ mxn → (gather l).drop q = ((gather (l ++ [r])).drop myn).filter (fun s => decide (s ∈ gather l)) → q = mxn from fun q hq hh => by
        rw [← hy1] at hh
        have := more_done (by omega) hh
        omega)
      have HLy2 := hide (show ∀ k, k < myn → ((gather (l ++ [r])).map (idsE (l ++ [r]))).getD k [] = idsE l ((gather (l ++ [r])).getD k []) ++ (if (gather (l ++ [r])).getD k [] ∈ termsOf r then [(n : Int)] else []) from fun k hk => by
        rw [List.getD_eq_getElem?_getD, List.getElem?_map, List.getElem?_eq_getElem (by omega), List.getD_eq_getElem?_getD, List.getElem?_eq_getElem (by omega)]
        have := ids_snoc l r (gather (l ++ [r]))[k]
        rw [HLn.out] at this
        exact this)
      have HLx2 := hide (show ∀ q, q < mxn → ((gather l).map (idsE l)).getD q [] = idsE l ((gather l).getD q []) from fun q hq => by
        rw [List.getD_eq_getElem?_getD, List.getElem?_map, List.getElem?_eq_getElem (by omega), List.getD_eq_getElem?_getD, List.getElem?_eq_getElem (by omega)]
        rfl)
      have HIl := hide (fun s => show (idsE l s).length ≤ 40 by have h1 := ids_len l s; have h2 := HLn.out; omega)
      have HNil := hide (fun s => (ids_nil (l := l) (s := s)))
      have HStart := hide (show (gather l).drop 0 = ((gather (l ++ [r])).drop 0).filter (fun s => decide (s ∈ gather l)) from gather_more l r)
      clear hTx hLx hTy hLy hx1 hy1 hx2 hy2 HX HY HMx8 HMy8 HGl hts hE9
      obtain ⟨X, hX⟩ : ∃ X, X = gather l := ⟨_, rfl⟩
      obtain ⟨G, hG⟩ : ∃ G, G = gather (l ++ [r]) := ⟨_, rfl⟩
      rw [← hX] at HTx HLx HMore HDone HLx2 HNil HStart
      rw [← hG] at HTy HLy HMore HDone HLy2 HStart
      clear hX hG HGx HGy
      generalize termsOf r = ts at *
      obtain ⟨g6, hg6⟩ : ∃ g6, g6 = w6.heap.size := ⟨_, rfl⟩
      obtain ⟨g7, hg7⟩ : ∃ g7, g7 = w6.heap.size + 1 := ⟨_, rfl⟩
      rw [← hg7] at HWy9 ⊢
      rw [← hg6] at HWx9 ⊢
      clear hg6 hg7
      go_wp2_with fail
      go_loopw [10, 9] (fun y v wr => ∃ k q : Nat, k ≤ myn ∧ q ≤ mxn ∧ y = .int .i64 (k : Int) ∧ v = .int .i64 (q : Int) ∧ X.drop q = (G.drop k).filter (fun s => decide (s ∈ X)) ∧ Ext w9 wr) (fun y _ _ => myn - (intOf y).toNat)
      case atStart => exact ⟨0, 0, by omega, by omega, rfl, rfl, HStart.out, Ext.refl _⟩
      case round =>
        clear HStart
        obtain ⟨k, q, hk, hq, rfl, rfl, hXq, hE⟩ := hrel
        have HE := hide hE
        have y0 := (HWy9.out.ext hE).at 0 (u := .slice ay myn ky) rfl
        have y1 := (HWy9.out.ext hE).at 1 (u := .slice by_ myn cy) rfl
        have x0 := (HWx9.out.ext hE).at 0 (u := .slice ax mxn kx) rfl
        by_cases hlt : k < myn
        · have hkI : (k : Int) < (myn : Int) := by omega
          obtain ⟨m1, m2⟩ := HMore.out k q hlt hXq
          obtain ⟨bt, ot, rfl, hct⟩ := HTy.out.cellAt hlt
          obtain ⟨bl, ol, a3, c3, rfl, hcl, e2c, e2m, hql⟩ := HLy.out.cellAt hlt
          have e1 := hct wr hE
          have e2 := hcl wr hE
          rw [HLy2.out k hlt] at e2 e2c hql
          have C1 := CH.out (G.getD k []) wr hE
          have HLin := hide (HIl.out (G.getD k []))
          have HNl := hide (HNil.out (G.getD k []))
          obtain ⟨s, hs⟩ : ∃ s, s = G.getD k [] := ⟨_, rfl⟩
          rw [← hs] at e1 e2 e2c hql C1 m1 m2 HLin HNl hct
          have HCt := hide hct
          have HEm := hide e2m
          have HS := hide hs
          have HM1 := hide m1
          have HM2 := hide m2
          have HXr := hide (show ∀ q, q < mxn → X.getD q [] = s → ((X.map (idsE l)).getD q []) = idsE l s from fun q hq e => by rw [HLx2.out q hq, e])
          obtain ⟨il, hil⟩ : ∃ il, il = idsE l s := ⟨_, rfl⟩
          rw [← hil] at e2 e2c hql HLin HNl HXr
          obtain ⟨m, hm⟩ : ∃ m, m = il.length := ⟨_, rfl⟩
          rw [← hm] at HLin
          have hm40 := HLin.out
          have HMl := hide hm
          clear hct hcl hs hil m1 m2 hXq hE
          by_cases hin : s ∈ ts
          · rw [decide_eq_true hin] at C1
            rw [if_pos hin, List.length_append, List.length_singleton, ← hm] at e2 e2c hql
            have hq3 : ∀ W, Ext w9 W → IntsAt W W.heap.size a3 m il := fun W hW => by
              have := (hql W hW).first18 (k := m) (by omega)
              rwa [List.take_left' hm.symm] at this
            obtain ⟨b3, o3, rfl, hc3⟩ : ∃ b o, a3 = some ⟨b, o, none⟩ ∧ wr.cell? ⟨b, o + m, none⟩ = some (.int .i64 (n : Int)) := by
              rcases (hql wr HE.out).2 with h0 | ⟨b, o, e, _, hc⟩
              · omega
              · refine ⟨b, o, e, ?_⟩
                rw [hc m (by omega), List.getD_eq_getElem?_getD, List.getElem?_append_right (by omega), hm]
                simp
            have hm1I : ((m : Int) + 1 == 0) = false := by simp; omega
            have hm1N : (m + 1 == 0) = false := by simp
            have HQ3 := hide hq3
            have HCc := hide (show m ≤ c3 by omega)
            have hnn : ((n : Int) != (n : Int)) = false := by simp
            have hmcI : (m : Int) ≤ (c3 : Int) := by omega
            have hm1c : (m : Int) < (m : Int) + 1 := by omega
            have hm0I : (0 : Int) ≤ (m : Int) := by omega
            clear hql hq3 hm hin e2m e2c
            by_cases hm0 : m = 0
            · have hnoX : s ∉ X := HNl.out.1 (List.eq_nil_of_length_eq_zero (by rw [← HMl.out]; exact hm0))
              have HNext := hide (HM2.out hnoX)
              subst hm0
              clear hnoX
              rw [Nat.add_zero] at hc3
              go_wp2_with fail
              refine C1.mono ?_
              rintro e wh ⟨rfl, rfl⟩
              go_wp2_with fail
              go_roundw
              case rel => exact ⟨k + 1, q, by omega, by omega, by go_num, rfl, HNext.out, HE.out⟩
              case measure => simp [intOf]; omega
            · have hinX : s ∈ X := by
                rcases Decidable.em (s ∈ X) with hh | hh
                · exact hh
                · exact absurd (by rw [HMl.out, HNl.out.2 hh]; rfl) hm0
              obtain ⟨hqlt, hXs, hnext⟩ := HM1.out hinX
              have hqx : q < mxn := by have := HTx.out.1; omega
              obtain ⟨tx, ux, rfl, hcx⟩ := HTx.out.cellAt hqx
              obtain ⟨vx, zx, a5, c5, rfl, hcv, h5c, h5m, hq5⟩ := HLx.out.cellAt hqx
              rw [hXs] at hcx
              rw [HXr.out q hqx hXs] at hcv h5c hq5
              rw [← HMl.out] at hcv h5c hq5
              have HCx := hide hcx
              have HCv := hide hcv
              have HC5 := hide (show m ≤ c5 ∧ c5 ≤ maxLen from ⟨h5c, h5m⟩)
              have HQ5 := hide hq5
              have HNext := hide hnext
              have HQlt := hide hqx
              have hqI : ¬ (mxn : Int) ≤ (q : Int) := by omega
              have hqJ : (q : Int) < (mxn : Int) := by omega
              have hss : (s != s) = false := by simp
              have hmI : ((m : Int) == 0) = false := by simp; omega
              have hmN : (m == 0) = false := by simp; omega
              clear hinX hqlt hXs hnext hcx hcv h5c h5m hq5
              go_wp2_with fail
              refine C1.mono ?_
              rintro e wh ⟨rfl, rfl⟩
              clear C1
              go_upto_region 19 with fail
              clear e1 e2 y0 y1 x0
              refine wp_region_T (fun W => Ext w9 W) 38 39 #[false, false, false, false, false, false, false, false, false, false, false, false, false, false, false, false, false, false, false, false, false, false, false, false, false, false, false, false, false, false, false, false, false, false, false, false, false, false, false] (by kernel_rfl) rfl rfl HE.out.drew ?_
              intro hS0
              refine wpAnyT_take 0 (some 88) (.int .i64 (q : Int)) #[true, false, false, false, false, false, false, false, false, false, false, false, false, false, false, false, false, false, false, false, false, false, false, false, false, false, false, false, false, false, false, false, false, false, false, false, false, false, false] rfl rfl rfl (by kernel_rfl) (fun _ _ _ h => h) hS0 (by rfl) (fun W hX => by go_simp) ?_
              simp only [Act.put, List.setIfInBounds_toArray, List.set_cons_zero, List.set_cons_succ]
              refine wpAnyT_take 1 (some 89) (.pointer (some ⟨g6, 0, none⟩)) #[true, true, false, false, false, false, false, false, false, false, false, false, false, false, false, false, false, false, false, false, false, false, false, false, false, false, false, false, false, false, false, false, false, false, false, false, false, false, false] rfl rfl rfl (by kernel_rfl) (fun _ _ _ h => h) hS0 (by rfl) (fun W hX => by go_simp) ?_
              simp only [Act.put, List.setIfInBounds_toArray, List.set_cons_zero, List.set_cons_succ]
              refine wpAnyT_take 2 (some 90) (.slice (some ⟨tx, ux, none⟩) mxn kx) #[true, true, true, false, false, false, false, false, false, false, false, false, false, false, false, false, false, false, false, false, false, false, false, false, false, false, false, false, false, false, false, false, false, false, false, false, false, false, false] rfl rfl rfl (by kernel_rfl) (fun _ _ _ h => h) hS0 (by rfl) (fun W hX => by have s0 := (HWx9.out.ext hX).at 0 (u := .slice (some ⟨tx, ux, none⟩) mxn kx) rfl; go_simp) ?_
              simp only [Act.put, List.setIfInBounds_toArray, List.set_cons_zero, List.set_cons_succ]
              refine wpAnyT_take 3 (some 91) (.int .i64 (mxn : Int)) #[true, true, true, true, false, false, false, false, false, false, false, false, false, false, false, false, false, false, false, false, false, false, false, false, false, false, false, false, false, false, false, false, false, false, false, false, false, false, false] rfl rfl rfl (by kernel_rfl) (fun _ _ _ h => h) hS0 (by rfl) (fun W hX => by go_simp) ?_
              simp only [Act.put, List.setIfInBounds_toArray, List.set_cons_zero, List.set_cons_succ]
              refine wpAnyT_take 4 (some 92) (.bool false) #[true, true, true, true, true, false, false, false, false, false, false, false, false, false, false, false, false, false, false, false, false, false, false, false, false, false, false, false, false, false, false, false, false, false, false, false, false, false, false] rfl rfl rfl (by kernel_rfl) (fun _ _ _ h => h) hS0 (by rfl) (fun W hX => by go_simp) ?_
              simp only [Act.put, List.setIfInBounds_toArray, List.set_cons_zero, List.set_cons_succ]
              refine wpAnyT_take 5 (some 93) (.bool false) #[true, true, true, true, true, true, false, false, false, false, false, false, false, false, false, false, false, false, false, false, false, false, false, false, false, false, false, false, false, false, false, false, false, false, false, false, false, false, false] rfl rfl rfl (by kernel_rfl) (fun _ _ _ h => h) hS0 (by rfl) (fun W hX => by go_simp) ?_
              simp only [Act.put, List.setIfInBounds_toArray, List.set_cons_zero, List.set_cons_succ]
              refine wpAnyT_take 6 (some 94) (.int .i64 (q : Int)) #[true, true, true, true, true, true, true, false, false, false, false, false, false, false, false, false, false, false, false, false, false, false, false, false, false, false, false, false, false, false, false, false, false, false, false, false, false, false, false] rfl rfl rfl (by kernel_rfl) (fun _ _ _ h => h) hS0 (by rfl) (fun W hX => by go_simp) ?_
              simp only [Act.put, List.setIfInBounds_toArray, List.set_cons_zero, List.set_cons_succ]
              refine wpAnyT_take 7 (some 95) (.pointer (some ⟨g6, 1, none⟩)) #[true, true, true, true, true, true, true, true, false, false, false, false, false, false, false, false, false, false, false, false, false, false, false, false, false, false, false, false, false, false, false, false, false, false, false, false, false, false, false] rfl rfl rfl (by kernel_rfl) (fun _ _ _ h => h) hS0 (by rfl) (fun W hX => by go_simp) ?_
              simp only [Act.put, List.setIfInBounds_toArray, List.set_cons_zero, List.set_cons_succ]
              refine wpAnyT_take 8 (some 96) (.slice (some ⟨vx, zx, none⟩) mxn cx) #[true, true, true, true, true, true, true, true, true, false, false, false, false, false, false, false, false, false, false, false, false, false, false, false, false, false, false, false, false, false, false, false, false, false, false, false, false, false, false] rfl rfl rfl (by kernel_rfl) (fun _ _ _ h => h) hS0 (by rfl) (fun W hX => by have s0 := (HWx9.out.ext hX).at 1 (u := .slice (some ⟨vx, zx, none⟩) mxn cx) rfl; go_simp) ?_
              simp only [Act.put, List.setIfInBounds_toArray, List.set_cons_zero, List.set_cons_succ]
              refine wpAnyT_take 9 (some 97) (.int .i64 (mxn : Int)) #[true, true, true, true, true, true, true, true, true, true, false, false, false, false, false, false, false, false, false, false, false, false, false, false, false, false, false, false, false, false, false, false, false, false, false, false, false, false, false] rfl rfl rfl (by kernel_rfl) (fun _ _ _ h => h) hS0 (by rfl) (fun W hX => by go_simp) ?_
              simp only [Act.put, List.setIfInBounds_toArray, List.set_cons_zero, List.set_cons_succ]
              refine wpAnyT_take 10 (some 98) (.bool false) #[true, true, true, true, true, true, true, true, true, true, true, false, false, false, false, false, false, false, false, false, false, false, false, false, false, false, false, false, false, false, false, false, false, false, false, false, false, false, false] rfl rfl rfl (by kernel_rfl) (fun _ _ _ h => h) hS0 (by rfl) (fun W hX => by go_simp) ?_
              simp only [Act.put, List.setIfInBounds_toArray, List.set_cons_zero, List.set_cons_succ]
              refine wpAnyT_take 11 (some 99) (.bool false) #[true, true, true, true, true, true, true, true, true, true, true, true, false, false, false, false, false, false, false, false, false, false, false, false, false, false, false, false, false, false, false, false, false, false, false, false, false, false, false] rfl rfl rfl (by kernel_rfl) (fun _ _ _ h => h) hS0 (by rfl) (fun W hX => by go_simp) ?_
              simp only [Act.put, List.setIfInBounds_toArray, List.set_cons_zero, List.set_cons_succ]
              refine wpAnyT_take 12 (some 100) (.bool false) #[true, true, true, true, true, true, true, true, true, true, true, true, true, false, false, false, false, false, false, false, false, false, false, false, false, false, false, false, false, false, false, false, false, false, false, false, false, false, false] rfl rfl rfl (by kernel_rfl) (fun _ _ _ h => h) hS0 (by rfl) (fun W hX => by go_simp) ?_
              simp only [Act.put, List.setIfInBounds_toArray, List.set_cons_zero, List.set_cons_succ]
              refine wpAnyT_take 13 (some 101) (.pointer (some ⟨g6, 0, none⟩)) #[true, true, true, true, true, true, true, true, true, true, true, true, true, true, false, false, false, false, false, false, false, false, false, false, false, false, false, false, false, false, false, false, false, false, false, false, false, false, false] rfl rfl rfl (by kernel_rfl) (fun _ _ _ h => h) hS0 (by rfl) (fun W hX => by go_simp) ?_
              simp only [Act.put, List.setIfInBounds_toArray, List.set_cons_zero, List.set_cons_succ]
              refine wpAnyT_take 14 (some 102) (.slice (some ⟨tx, ux, none⟩) mxn kx) #[true, true, true, true, true, true, true, true, true, true, true, true, true, true, true, false, false, false, false, false, false, false, false, false, false, false, false, false, false, false, false, false, false, false, false, false, false, false, false] rfl rfl rfl (by kernel_rfl) (fun _ _ _ h => h) hS0 (by rfl) (fun W hX => by have s0 := (HWx9.out.ext hX).at 0 (u := .slice (some ⟨tx, ux, none⟩) mxn kx) rfl; go_simp) ?_
              simp only [Act.put, List.setIfInBounds_toArray, List.set_cons_zero, List.set_cons_succ]
              refine wpAnyT_take 15 (some 103) (.int .i64 (q : Int)) #[true, true, true, true, true, true, true, true, true, true, true, true, true, true, true, true, false, false, false, false, false, false, false, false, false, false, false, false, false, false, false, false, false, false, false, false, false, false, false] rfl rfl rfl (by kernel_rfl) (fun _ _ _ h => h) hS0 (by rfl) (fun W hX => by go_simp) ?_
              simp only [Act.put, List.setIfInBounds_toArray, List.set_cons_zero, List.set_cons_succ]
              refine wpAnyT_take 16 (some 104) (.pointer (some ⟨tx, ux + q, none⟩)) #[true, true, true, true, true, true, true, true, true, true, true, true, true, true, true, true, true, false, false, false, false, false, false, false, false, false, false, false, false, false, false, false, false, false, false, false, false, false, false] rfl rfl rfl (by kernel_rfl) (fun _ _ _ h => h) hS0 (by rfl) (fun W hX => by go_simp) ?_
              simp only [Act.put, List.setIfInBounds_toArray, List.set_cons_zero, List.set_cons_succ]
              refine wpAnyT_take 17 (some 105) (.string ⟨s.toArray⟩) #[true, true, true, true, true, true, true, true, true, true, true, true, true, true, true, true, true, true, false, false, false, false, false, false, false, false, false, false, false, false, false, false, false, false, false, false, false, false, false] rfl rfl rfl (by kernel_rfl) (fun _ _ _ h => h) hS0 (by rfl) (fun W hX => by have s0 := HCx.out W hX; go_simp) ?_
              simp only [Act.put, List.setIfInBounds_toArray, List.set_cons_zero, List.set_cons_succ]
              refine wpAnyT_take 18 (some 106) (.pointer (some ⟨g7, 0, none⟩)) #[true, true, true, true, true, true, true, true, true, true, true, true, true, true, true, true, true, true, true, false, false, false, false, false, false, false, false, false, false, false, false, false, false, false, false, false, false, false, false] rfl rfl rfl (by kernel_rfl) (fun _ _ _ h => h) hS0 (by rfl) (fun W hX => by go_simp) ?_
              simp only [Act.put, List.setIfInBounds_toArray, List.set_cons_zero, List.set_cons_succ]
              refine wpAnyT_take 19 (some 107) (.slice (some ⟨bt, ot, none⟩) myn ky) #[true, true, true, true, true, true, true, true, true, true, true, true, true, true, true, true, true, true, true, true, false, false, false, false, false, false, false, false, false, false, false, false, false, false, false, false, false, false, false] rfl rfl rfl (by kernel_rfl) (fun _ _ _ h => h) hS0 (by rfl) (fun W hX => by have s0 := (HWy9.out.ext hX).at 0 (u := .slice (some ⟨bt, ot, none⟩) myn ky) rfl; go_simp) ?_
              simp only [Act.put, List.setIfInBounds_toArray, List.set_cons_zero, List.set_cons_succ]
              refine wpAnyT_take 20 (some 108) (.int .i64 (k : Int)) #[true, true, true, true, true, true, true, true, true, true, true, true, true, true, true, true, true, true, true, true, true, false, false, false, false, false, false, false, false, false, false, false, false, false, false, false, false, false, false] rfl rfl rfl (by kernel_rfl) (fun _ _ _ h => h) hS0 (by rfl) (fun W hX => by go_simp) ?_
              simp only [Act.put, List.setIfInBounds_toArray, List.set_cons_zero, List.set_cons_succ]
              refine wpAnyT_take 21 (some 109) (.pointer (some ⟨bt, ot + k, none⟩)) #[true, true, true, true, true, true, true, true, true, true, true, true, true, true, true, true, true, true, true, true, true, true, false, false, false, false, false, false, false, false, false, false, false, false, false, false, false, false, false] rfl rfl rfl (by kernel_rfl) (fun _ _ _ h => h) hS0 (by rfl) (fun W hX => by go_simp) ?_
              simp only [Act.put, List.setIfInBounds_toArray, List.set_cons_zero, List.set_cons_succ]
              refine wpAnyT_take 22 (some 110) (.string ⟨s.toArray⟩) #[true, true, true, true, true, true, true, true, true, true, true, true, true, true, true, true, true, true, true, true, true, true, true, false, false, false, false, false, false, false, false, false, false, false, false, false, false, false, false] rfl rfl rfl (by kernel_rfl) (fun _ _ _ h => h) hS0 (by rfl) (fun W hX => by have s0 := HCt.out W hX; go_simp) ?_
              simp only [Act.put, List.setIfInBounds_toArray, List.set_cons_zero, List.set_cons_succ]
              refine wpAnyT_take 23 (some 111) (.bool false) #[true, true, true, true, true, true, true, true, true, true, true, true, true, true, true, true, true, true, true, true, true, true, true, true, false, false, false, false, false, false, false, false, false, false, false, false, false, false, false] rfl rfl rfl (by kernel_rfl) (fun _ _ _ h => h) hS0 (by rfl) (fun W hX => by go_simp) ?_
              simp only [Act.put, List.setIfInBounds_toArray, List.set_cons_zero, List.set_cons_succ]
              refine wpAnyT_take 24 (some 112) (.bool false) #[true, true, true, true, true, true, true, true, true, true, true, true, true, true, true, true, true, true, true, true, true, true, true, true, true, false, false, false, false, false, false, false, false, false, false, false, false, false, false] rfl rfl rfl (by kernel_rfl) (fun _ _ _ h => h) hS0 (by rfl) (fun W hX => by go_simp) ?_
              simp only [Act.put, List.setIfInBounds_toArray, List.set_cons_zero, List.set_cons_succ]
              refine wpAnyT_take 25 (some 113) (.bool false) #[true, true, true, true, true, true, true, true, true, true, true, true, true, true, true, true, true, true, true, true, true, true, true, true, true, true, false, false, false, false, false, false, false, false, false, false, false, false, false] rfl rfl rfl (by kernel_rfl) (fun _ _ _ h => h) hS0 (by rfl) (fun W hX => by go_simp) ?_
              simp only [Act.put, List.setIfInBounds_toArray, List.set_cons_zero, List.set_cons_succ]
              refine wpAnyT_take 26 (some 114) (.pointer (some ⟨g6, 1, none⟩)) #[true, true, true, true, true, true, true, true, true, true, true, true, true, true, true, true, true, true, true, true, true, true, true, true, true, true, true, false, false, false, false, false, false, false, false, false, false, false, false] rfl rfl rfl (by kernel_rfl) (fun _ _ _ h => h) hS0 (by rfl) (fun W hX => by go_simp) ?_
              simp only [Act.put, List.setIfInBounds_toArray, List.set_cons_zero, List.set_cons_succ]
              refine wpAnyT_take 27 (some 115) (.slice (some ⟨vx, zx, none⟩) mxn cx) #[true, true, true, true, true, true, true, true, true, true, true, true, true, true, true, true, true, true, true, true, true, true, true, true, true, true, true, true, false, false, false, false, false, false, false, false, false, false, false] rfl rfl rfl (by kernel_rfl) (fun _ _ _ h => h) hS0 (by rfl) (fun W hX => by have s0 := (HWx9.out.ext hX).at 1 (u := .slice (some ⟨vx, zx, none⟩) mxn cx) rfl; go_simp) ?_
              simp only [Act.put, List.setIfInBounds_toArray, List.set_cons_zero, List.set_cons_succ]
              refine wpAnyT_take 28 (some 116) (.int .i64 (q : Int)) #[true, true, true, true, true, true, true, true, true, true, true, true, true, true, true, true, true, true, true, true, true, true, true, true, true, true, true, true, true, false, false, false, false, false, false, false, false, false, false] rfl rfl rfl (by kernel_rfl) (fun _ _ _ h => h) hS0 (by rfl) (fun W hX => by go_simp) ?_
              simp only [Act.put, List.setIfInBounds_toArray, List.set_cons_zero, List.set_cons_succ]
              refine wpAnyT_take 29 (some 117) (.pointer (some ⟨vx, zx + q, none⟩)) #[true, true, true, true, true, true, true, true, true, true, true, true, true, true, true, true, true, true, true, true, true, true, true, true, true, true, true, true, true, true, false, false, false, false, false, false, false, false, false] rfl rfl rfl (by kernel_rfl) (fun _ _ _ h => h) hS0 (by rfl) (fun W hX => by go_simp) ?_
              simp only [Act.put, List.setIfInBounds_toArray, List.set_cons_zero, List.set_cons_succ]
              refine wpAnyT_take 30 (some 118) (.slice a5 m c5) #[true, true, true, true, true, true, true, true, true, true, true, true, true, true, true, true, true, true, true, true, true, true, true, true, true, true, true, true, true, true, true, false, false, false, false, false, false, false, false] rfl rfl rfl (by kernel_rfl) (fun _ _ _ h => h) hS0 (by rfl) (fun W hX => by have s0 := HCv.out W hX; go_simp) ?_
              simp only [Act.put, List.setIfInBounds_toArray, List.set_cons_zero, List.set_cons_succ]
              refine wpAnyT_take 33 (some 121) (.slice (some ⟨b3, o3, none⟩) m c3) #[true, true, true, true, true, true, true, true, true, true, true, true, true, true, true, true, true, true, true, true, true, true, true, true, true, true, true, true, true, true, true, false, false, true, false, false, false, false, false] rfl rfl rfl (by kernel_rfl) (fun _ _ _ h => h) hS0 (by rfl) (fun W hX => by go_simp) ?_
              simp only [Act.put, List.setIfInBounds_toArray, List.set_cons_zero, List.set_cons_succ]
              generalize hwd : wr.drew = wd at *
              clear hwd
              refine wpAnyT_two 31 34 #[true, true, true, true, true, true, true, true, true, true, true, true, true, true, true, true, true, true, true, true, true, true, true, true, true, true, true, true, true, true, true, true, false, true, false, false, false, false, false] #[true, true, true, true, true, true, true, true, true, true, true, true, true, true, true, true, true, true, true, true, true, true, true, true, true, true, true, true, true, true, true, false, false, true, true, false, false, false, false] (by kernel_rfl) rfl rfl rfl rfl (by rfl) (by rfl) (fun K0 hK0 => ?_) (fun K0 hK0 => ?_)
              · go_simp
                obtain ⟨ga, hga⟩ : ∃ g, g = wd.heap.size := ⟨_, rfl⟩
                have hEa := extNew wd (.cells #[.slice a5 m c5] 36)
                have hWa := Whole.new wd 36 #[.slice a5 m c5]
                rw [← hga] at hWa ⊢
                obtain ⟨wa, hwa⟩ : ∃ W, W = wd.alloc (.cells #[.slice a5 m c5] 36) := ⟨_, rfl⟩
                rw [← hwa] at hEa hWa ⊢
                clear hwa hga
                refine hK0 _ _ (fun _ => hS0.trans hEa) ?_
                clear hK0 K0
                refine wpAnyT_pure 32 (some 120) (.agg #[.slice none 0 0, .slice (some ⟨ga, 0, none⟩) 1 1]) #[true, true, true, true, true, true, true, true, true, true, true, true, true, true, true, true, true, true, true, true, true, true, true, true, true, true, true, true, true, true, true, true, true, true, false, false, false, false, false] rfl rfl rfl (by kernel_rfl) (fun _ _ _ h => h) (fun _ => hS0.trans hEa) (by rfl) (fun W => by go_simp) ?_
                simp only [Act.put, List.setIfInBounds_toArray, List.set_cons_zero, List.set_cons_succ]
                refine wpAnyT_only 34 #[true, true, true, true, true, true, true, true, true, true, true, true, true, true, true, true, true, true, true, true, true, true, true, true, true, true, true, true, true, true, true, true, true, true, true, false, false, false, false] (by kernel_rfl) rfl rfl (by rfl) (fun K1 hK1 => ?_)
                go_simp
                obtain ⟨gb, hgb⟩ : ∃ g, g = wa.heap.size := ⟨_, rfl⟩
                have hEb := extNew wa (.cells #[.slice (some ⟨b3, o3, none⟩) m c3] 36)
                have hWb := Whole.new wa 36 #[.slice (some ⟨b3, o3, none⟩) m c3]
                rw [← hgb] at hWb ⊢
                obtain ⟨wb, hwb⟩ : ∃ W, W = wa.alloc (.cells #[.slice (some ⟨b3, o3, none⟩) m c3] 36) := ⟨_, rfl⟩
                rw [← hwb] at hEb hWb ⊢
                clear hwb hgb
                have hSb := (hS0.trans hEa).trans hEb
                refine hK1 _ _ (fun _ => hSb) ?_
                clear hK1 K1
                refine wpAnyT_pure 35 (some 123) (.agg #[.slice none 0 0, .slice (some ⟨gb, 0, none⟩) 1 1]) #[true, true, true, true, true, true, true, true, true, true, true, true, true, true, true, true, true, true, true, true, true, true, true, true, true, true, true, true, true, true, true, true, true, true, true, true, false, false, false] rfl rfl rfl (by kernel_rfl) (fun _ _ _ h => h) (fun _ => hSb) (by rfl) (fun W => by go_simp) ?_
                simp only [Act.put, List.setIfInBounds_toArray, List.set_cons_zero, List.set_cons_succ]
                refine wpAnyT_only 36 #[true, true, true, true, true, true, true, true, true, true, true, true, true, true, true, true, true, true, true, true, true, true, true, true, true, true, true, true, true, true, true, true, true, true, true, true, true, false, false] (by kernel_rfl) rfl rfl (by rfl) (fun K2 hK2 => ?_)
                go_simp
                go_at_call 10
                have CSm := same_lists (W := wb) ga gb (some ⟨b3, o3, none⟩) a5 c3 c5 il (by rw [← HMl.out]; omega) (by rw [← HMl.out]; exact (hWa.ext hEb)) (by rw [← HMl.out]; exact hWb) (by rw [← HMl.out]; exact HC5.out) (by rw [← HMl.out]; exact ⟨HCc.out, HEm.out⟩) (by rw [← HMl.out]; exact HQ5.out wb hSb) (by rw [← HMl.out]; exact HQ3.out wb hSb)
                refine CSm.mono ?_
                rintro e wz ⟨rfl, hEz⟩
                have hSz := hSb.trans hEz
                refine hK2 _ _ (fun _ => hSz) ?_
                clear hK2 K2 CSm
                refine wpAnyT_only 37 #[true, true, true, true, true, true, true, true, true, true, true, true, true, true, true, true, true, true, true, true, true, true, true, true, true, true, true, true, true, true, true, true, true, true, true, true, true, true, false] (by kernel_rfl) rfl rfl (by rfl) (fun K3 hK3 => ?_)
                go_simp
                refine hK3 _ _ (fun _ => hSz) ?_
                clear hK3 K3
                refine wpAnyT_only 38 #[true, true, true, true, true, true, true, true, true, true, true, true, true, true, true, true, true, true, true, true, true, true, true, true, true, true, true, true, true, true, true, true, true, true, true, true, true, true, true] (by kernel_rfl) rfl rfl (by rfl) (fun K4 hK4 => ?_)
                go_simp
                refine hK4 _ _ (fun h => absurd h (by decide)) (wpAnyT_done (by kernel_rfl) ?_ _)
                clear hK4 K4
                go_wp2_with fail
                go_roundw
                case rel => exact ⟨k + 1, q + 1, by omega, by have := HQlt.out; omega, by go_num, by go_num, HNext.out, hSz⟩
                case measure => simp [intOf]; omega
              · go_simp
                obtain ⟨ga, hga⟩ : ∃ g, g = wd.heap.size := ⟨_, rfl⟩
                have hEa := extNew wd (.cells #[.slice (some ⟨b3, o3, none⟩) m c3] 36)
                have hWa := Whole.new wd 36 #[.slice (some ⟨b3, o3, none⟩) m c3]
                rw [← hga] at hWa ⊢
                obtain ⟨wa, hwa⟩ : ∃ W, W = wd.alloc (.cells #[.slice (some ⟨b3, o3, none⟩) m c3] 36) := ⟨_, rfl⟩
                rw [← hwa] at hEa hWa ⊢
                clear hwa hga
                refine hK0 _ _ (fun _ => hS0.trans hEa) ?_
                clear hK0 K0
                refine wpAnyT_pure 35 (some 123) (.agg #[.slice none 0 0, .slice (some ⟨ga, 0, none⟩) 1 1]) #[true, true, true, true, true, true, true, true, true, true, true, true, true, true, true, true, true, true, true, true, true, true, true, true, true, true, true, true, true, true, true, false, false, true, true, true, false, false, false] rfl rfl rfl (by kernel_rfl) (fun _ _ _ h => h) (fun _ => hS0.trans hEa) (by rfl) (fun W => by go_simp) ?_
                simp only [Act.put, List.setIfInBounds_toArray, List.set_cons_zero, List.set_cons_succ]
                refine wpAnyT_only 31 #[true, true, true, true, true, true, true, true, true, true, true, true, true, true, true, true, true, true, true, true, true, true, true, true, true, true, true, true, true, true, true, true, false, true, true, true, false, false, false] (by kernel_rfl) rfl rfl (by rfl) (fun K1 hK1 => ?_)
                go_simp
                obtain ⟨gb, hgb⟩ : ∃ g, g = wa.heap.size := ⟨_, rfl⟩
                have hEb := extNew wa (.cells #[.slice a5 m c5] 36)
                have hWb := Whole.new wa 36 #[.slice a5 m c5]
                rw [← hgb] at hWb ⊢
                obtain ⟨wb, hwb⟩ : ∃ W, W = wa.alloc (.cells #[.slice a5 m c5] 36) := ⟨_, rfl⟩
                rw [← hwb] at hEb hWb ⊢
                clear hwb hgb
                have hSb := (hS0.trans hEa).trans hEb
                refine hK1 _ _ (fun _ => hSb) ?_
                clear hK1 K1
                refine wpAnyT_pure 32 (some 120) (.agg #[.slice none 0 0, .slice (some ⟨gb, 0, none⟩) 1 1]) #[true, true, true, true, true, true, true, true, true, true, true, true, true, true, true, true, true, true, true, true, true, true, true, true, true, true, true, true, true, true, true, true, true, true, true, true, false, false, false] rfl rfl rfl (by kernel_rfl) (fun _ _ _ h => h) (fun _ => hSb) (by rfl) (fun W => by go_simp) ?_
                simp only [Act.put, List.setIfInBounds_toArray, List.set_cons_zero, List.set_cons_succ]
                refine wpAnyT_only 36 #[true, true, true, true, true, true, true, true, true, true, true, true, true, true, true, true, true, true, true, true, true, true, true, true, true, true, true, true, true, true, true, true, true, true, true, true, true, false, false] (by kernel_rfl) rfl rfl (by rfl) (fun K2 hK2 => ?_)
                go_simp
                go_at_call 10
                have CSm := same_lists (W := wb) gb ga (some ⟨b3, o3, none⟩) a5 c3 c5 il (by rw [← HMl.out]; omega) (by rw [← HMl.out]; exact hWb) (by rw [← HMl.out]; exact (hWa.ext hEb)) (by rw [← HMl.out]; exact HC5.out) (by rw [← HMl.out]; exact ⟨HCc.out, HEm.out⟩) (by rw [← HMl.out]; exact HQ5.out wb hSb) (by rw [← HMl.out]; exact HQ3.out wb hSb)
                refine CSm.mono ?_
                rintro e wz ⟨rfl, hEz⟩
                have hSz := hSb.trans hEz
                refine hK2 _ _ (fun _ => hSz) ?_
                clear hK2 K2 CSm
                refine wpAnyT_only 37 #[true, true, true, true, true, true, true, true, true, true, true, true, true, true, true, true, true, true, true, true, true, true, true, true, true, true, true, true, true, true, true, true, true, true, true, true, true, true, false] (by kernel_rfl) rfl rfl (by rfl) (fun K3 hK3 => ?_)
                go_simp
                refine hK3 _ _ (fun _ => hSz) ?_
                clear hK3 K3
                refine wpAnyT_only 38 #[true, true, true, true, true, true, true, true, true, true, true, true, true, true, true, true, true, true, true, true, true, true, true, true, true, true, true, true, true, true, true, true, true, true, true, true, true, true, true] (by kernel_rfl) rfl rfl (by rfl) (fun K4 hK4 => ?_)
                go_simp
                refine hK4 _ _ (fun h => absurd h (by decide)) (wpAnyT_done (by kernel_rfl) ?_ _)
                clear hK4 K4
                go_wp2_with fail
                go_roundw
                case rel => exact ⟨k + 1, q + 1, by omega, by have := HQlt.out; omega, by go_num, by go_num, HNext.out, hSz⟩
                case measure => simp [intOf]; omega
          · rw [decide_eq_false hin] at C1
            rw [if_neg hin, List.append_nil, ← hm] at e2 e2c hql
            have HQ3 := hide hql
            have HCc := hide e2c
            clear hql hm hin e2m e2c
            by_cases hm0 : m = 0
            · have hnoX : s ∉ X := HNl.out.1 (List.eq_nil_of_length_eq_zero (by rw [← HMl.out]; exact hm0))
              have HNext := hide (HM2.out hnoX)
              subst hm0
              clear hnoX
              skip
              go_wp2_with fail
              refine C1.mono ?_
              rintro e wh ⟨rfl, rfl⟩
              go_wp2_with fail
              go_roundw
              case rel => exact ⟨k + 1, q, by omega, by omega, by go_num, rfl, HNext.out, HE.out⟩
              case measure => simp [intOf]; omega
            · have hinX : s ∈ X := by
                rcases Decidable.em (s ∈ X) with hh | hh
                · exact hh
                · exact absurd (by rw [HMl.out, HNl.out.2 hh]; rfl) hm0
              obtain ⟨hqlt, hXs, hnext⟩ := HM1.out hinX
              have hqx : q < mxn := by have := HTx.out.1; omega
              obtain ⟨tx, ux, rfl, hcx⟩ := HTx.out.cellAt hqx
              obtain ⟨vx, zx, a5, c5, rfl, hcv, h5c, h5m, hq5⟩ := HLx.out.cellAt hqx
              rw [hXs] at hcx
              rw [HXr.out q hqx hXs] at hcv h5c hq5
              rw [← HMl.out] at hcv h5c hq5
              have HCx := hide hcx
              have HCv := hide hcv
              have HC5 := hide (show m ≤ c5 ∧ c5 ≤ maxLen from ⟨h5c, h5m⟩)
              have HQ5 := hide hq5
              have HNext := hide hnext
              have HQlt := hide hqx
              have hqI : ¬ (mxn : Int) ≤ (q : Int) := by omega
              have hqJ : (q : Int) < (mxn : Int) := by omega
              have hss : (s != s) = false := by simp
              have hmI : ((m : Int) == 0) = false := by simp; omega
              have hmN : (m == 0) = false := by simp; omega
              clear hinX hqlt hXs hnext hcx hcv h5c h5m hq5
              go_wp2_with fail
              refine C1.mono ?_
              rintro e wh ⟨rfl, rfl⟩
              clear C1
              go_upto_region 19 with fail
              clear e1 e2 y0 y1 x0
              refine wp_region_T (fun W => Ext w9 W) 38 39 #[false, false, false, false, false, false, false, false, false, false, false, false, false, false, false, false, false, false, false, false, false, false, false, false, false, false, false, false, false, false, false, false, false, false, false, false, false, false, false] (by kernel_rfl) rfl rfl HE.out.drew ?_
              intro hS0
              refine wpAnyT_take 0 (some 88) (.int .i64 (q : Int)) #[true, false, false, false, false, false, false, false, false, false, false, false, false, false, false, false, false, false, false, false, false, false, false, false, false, false, false, false, false, false, false, false, false, false, false, false, false, false, false] rfl rfl rfl (by kernel_rfl) (fun _ _ _ h => h) hS0 (by rfl) (fun W hX => by go_simp) ?_
              simp only [Act.put, List.setIfInBounds_toArray, List.set_cons_zero, List.set_cons_succ]
              refine wpAnyT_take 1 (some 89) (.pointer (some ⟨g6, 0, none⟩)) #[true, true, false, false, false, false, false, false, false, false, false, false, false, false, false, false, false, false, false, false, false, false, false, false, false, false, false, false, false, false, false, false, false, false, false, false, false, false, false] rfl rfl rfl (by kernel_rfl) (fun _ _ _ h => h) hS0 (by rfl) (fun W hX => by go_simp) ?_
              simp only [Act.put, List.setIfInBounds_toArray, List.set_cons_zero, List.set_cons_succ]
              refine wpAnyT_take 2 (some 90) (.slice (some ⟨tx, ux, none⟩) mxn kx) #[true, true, true, false, false, false, false, false, false, false, false, false, false, false, false, false, false, false, false, false, false, false, false, false, false, false, false, false, false, false, false, false, false, false, false, false, false, false, false] rfl rfl rfl (by kernel_rfl) (fun _ _ _ h => h) hS0 (by rfl) (fun W hX => by have s0 := (HWx9.out.ext hX).at 0 (u := .slice (some ⟨tx, ux, none⟩) mxn kx) rfl; go_simp) ?_
              simp only [Act.put, List.setIfInBounds_toArray, List.set_cons_zero, List.set_cons_succ]
              refine wpAnyT_take 3 (some 91) (.int .i64 (mxn : Int)) #[true, true, true, true, false, false, false, false, false, false, false, false, false, false, false, false, false, false, false, false, false, false, false, false, false, false, false, false, false, false, false, false, false, false, false, false, false, false, false] rfl rfl rfl (by kernel_rfl) (fun _ _ _ h => h) hS0 (by rfl) (fun W hX => by go_simp) ?_
              simp only [Act.put, List.setIfInBounds_toArray, List.set_cons_zero, List.set_cons_succ]
              refine wpAnyT_take 4 (some 92) (.bool false) #[true, true, true, true, true, false, false, false, false, false, false, false, false, false, false, false, false, false, false, false, false, false, false, false, false, false, false, false, false, false, false, false, false, false, false, false, false, false, false] rfl rfl rfl (by kernel_rfl) (fun _ _ _ h => h) hS0 (by rfl) (fun W hX => by go_simp) ?_
              simp only [Act.put, List.setIfInBounds_toArray, List.set_cons_zero, List.set_cons_succ]
              refine wpAnyT_take 5 (some 93) (.bool false) #[true, true, true, true, true, true, false, false, false, false, false, false, false, false, false, false, false, false, false, false, false, false, false, false, false, false, false, false, false, false, false, false, false, false, false, false, false, false, false] rfl rfl rfl (by kernel_rfl) (fun _ _ _ h => h) hS0 (by rfl) (fun W hX => by go_simp) ?_
              simp only [Act.put, List.setIfInBounds_toArray, List.set_cons_zero, List.set_cons_succ]
              refine wpAnyT_take 6 (some 94) (.int .i64 (q : Int)) #[true, true, true, true, true, true, true, false, false, false, false, false, false, false, false, false, false, false, false, false, false, false, false, false, false, false, false, false, false, false, false, false, false, false, false, false, false, false, false] rfl rfl rfl (by kernel_rfl) (fun _ _ _ h => h) hS0 (by rfl) (fun W hX => by go_simp) ?_
              simp only [Act.put, List.setIfInBounds_toArray, List.set_cons_zero, List.set_cons_succ]
              refine wpAnyT_take 7 (some 95) (.pointer (some ⟨g6, 1, none⟩)) #[true, true, true, true, true, true, true, true, false, false, false, false, false, false, false, false, false, false, false, false, false, false, false, false, false, false, false, false, false, false, false, false, false, false, false, false, false, false, false] rfl rfl rfl (by kernel_rfl) (fun _ _ _ h => h) hS0 (by rfl) (fun W hX => by go_simp) ?_
              simp only [Act.put, List.setIfInBounds_toArray, List.set_cons_zero, List.set_cons_succ]
              refine wpAnyT_take 8 (some 96) (.slice (some ⟨vx, zx, none⟩) mxn cx) #[true, true, true, true, true, true, true, true, true, false, false, false, false, false, false, false, false, false, false, false, false, false, false, false, false, false, false, false, false, false, false, false, false, false, false, false, false, false, false] rfl rfl rfl (by kernel_rfl) (fun _ _ _ h => h) hS0 (by rfl) (fun W hX => by have s0 := (HWx9.out.ext hX).at 1 (u := .slice (some ⟨vx, zx, none⟩) mxn cx) rfl; go_simp) ?_
              simp only [Act.put, List.setIfInBounds_toArray, List.set_cons_zero, List.set_cons_succ]
              refine wpAnyT_take 9 (some 97) (.int .i64 (mxn : Int)) #[true, true, true, true, true, true, true, true, true, true, false, false, false, false, false, false, false, false, false, false, false, false, false, false, false, false, false, false, false, false, false, false, false, false, false, false, false, false, false] rfl rfl rfl (by kernel_rfl) (fun _ _ _ h => h) hS0 (by rfl) (fun W hX => by go_simp) ?_
              simp only [Act.put, List.setIfInBounds_toArray, List.set_cons_zero, List.set_cons_succ]
              refine wpAnyT_take 10 (some 98) (.bool false) #[true, true, true, true, true, true, true, true, true, true, true, false, false, false, false, false, false, false, false, false, false, false, false, false, false, false, false, false, false, false, false, false, false, false, false, false, false, false, false] rfl rfl rfl (by kernel_rfl) (fun _ _ _ h => h) hS0 (by rfl) (fun W hX => by go_simp) ?_
              simp only [Act.put, List.setIfInBounds_toArray, List.set_cons_zero, List.set_cons_succ]
              refine wpAnyT_take 11 (some 99) (.bool false) #[true, true, true, true, true, true, true, true, true, true, true, true, false, false, false, false, false, false, false, false, false, false, false, false, false, false, false, false, false, false, false, false, false, false, false, false, false, false, false] rfl rfl rfl (by kernel_rfl) (fun _ _ _ h => h) hS0 (by rfl) (fun W hX => by go_simp) ?_
              simp only [Act.put, List.setIfInBounds_toArray, List.set_cons_zero, List.set_cons_succ]
              refine wpAnyT_take 12 (some 100) (.bool false) #[true, true, true, true, true, true, true, true, true, true, true, true, true, false, false, false, false, false, false, false, false, false, false, false, false, false, false, false, false, false, false, false, false, false, false, false, false, false, false] rfl rfl rfl (by kernel_rfl) (fun _ _ _ h => h) hS0 (by rfl) (fun W hX => by go_simp) ?_
              simp only [Act.put, List.setIfInBounds_toArray, List.set_cons_zero, List.set_cons_succ]
              refine wpAnyT_take 13 (some 101) (.pointer (some ⟨g6, 0, none⟩)) #[true, true, true, true, true, true, true, true, true, true, true, true, true, true, false, false, false, false, false, false, false, false, false, false, false, false, false, false, false, false, false, false, false, false, false, false, false, false, false] rfl rfl rfl (by kernel_rfl) (fun _ _ _ h => h) hS0 (by rfl) (fun W hX => by go_simp) ?_
              simp only [Act.put, List.setIfInBounds_toArray, List.set_cons_zero, List.set_cons_succ]
              refine wpAnyT_take 14 (some 102) (.slice (some ⟨tx, ux, none⟩) mxn kx) #[true, true, true, true, true, true, true, true, true, true, true, true, true, true, true, false, false, false, false, false, false, false, false, false, false, false, false, false, false, false, false, false, false, false, false, false, false, false, false] rfl rfl rfl (by kernel_rfl) (fun _ _ _ h => h) hS0 (by rfl) (fun W hX => by have s0 := (HWx9.out.ext hX).at 0 (u := .slice (some ⟨tx, ux, none⟩) mxn kx) rfl; go_simp) ?_
              simp only [Act.put, List.setIfInBounds_toArray, List.set_cons_zero, List.set_cons_succ]
              refine wpAnyT_take 15 (some 103) (.int .i64 (q : Int)) #[true, true, true, true, true, true, true, true, true, true, true, true, true, true, true, true, false, false, false, false, false, false, false, false, false, false, false, false, false, false, false, false, false, false, false, false, false, false, false] rfl rfl rfl (by kernel_rfl) (fun _ _ _ h => h) hS0 (by rfl) (fun W hX => by go_simp) ?_
              simp only [Act.put, List.setIfInBounds_toArray, List.set_cons_zero, List.set_cons_succ]
              refine wpAnyT_take 16 (some 104) (.pointer (some ⟨tx, ux + q, none⟩)) #[true, true, true, true, true, true, true, true, true, true, true, true, true, true, true, true, true, false, false, false, false, false, false, false, false, false, false, false, false, false, false, false, false, false, false, false, false, false, false] rfl rfl rfl (by kernel_rfl) (fun _ _ _ h => h) hS0 (by rfl) (fun W hX => by go_simp) ?_
              simp only [Act.put, List.setIfInBounds_toArray, List.set_cons_zero, List.set_cons_succ]
              refine wpAnyT_take 17 (some 105) (.string ⟨s.toArray⟩) #[true, true, true, true, true, true, true, true, true, true, true, true, true, true, true, true, true, true, false, false, false, false, false, false, false, false, false, false, false, false, false, false, false, false, false, false, false, false, false] rfl rfl rfl (by kernel_rfl) (fun _ _ _ h => h) hS0 (by rfl) (fun W hX => by have s0 := HCx.out W hX; go_simp) ?_
              simp only [Act.put, List.setIfInBounds_toArray, List.set_cons_zero, List.set_cons_succ]
              refine wpAnyT_take 18 (some 106) (.pointer (some ⟨g7, 0, none⟩)) #[true, true, true, true, true, true, true, true, true, true, true, true, true, true, true, true, true, true, true, false, false, false, false, false, false, false, false, false, false, false, false, false, false, false, false, false, false, false, false] rfl rfl rfl (by kernel_rfl) (fun _ _ _ h => h) hS0 (by rfl) (fun W hX => by go_simp) ?_
              simp only [Act.put, List.setIfInBounds_toArray, List.set_cons_zero, List.set_cons_succ]
              refine wpAnyT_take 19 (some 107) (.slice (some ⟨bt, ot, none⟩) myn ky) #[true, true, true, true, true, true, true, true, true, true, true, true, true, true, true, true, true, true, true, true, false, false, false, false, false, false, false, false, false, false, false, false, false, false, false, false, false, false, false] rfl rfl rfl (by kernel_rfl) (fun _ _ _ h => h) hS0 (by rfl) (fun W hX => by have s0 := (HWy9.out.ext hX).at 0 (u := .slice (some ⟨bt, ot, none⟩) myn ky) rfl; go_simp) ?_
              simp only [Act.put, List.setIfInBounds_toArray, List.set_cons_zero, List.set_cons_succ]
              refine wpAnyT_take 20 (some 108) (.int .i64 (k : Int)) #[true, true, true, true, true, true, true, true, true, true, true, true, true, true, true, true, true, true, true, true, true, false, false, false, false, false, false, false, false, false, false, false, false, false, false, false, false, false, false] rfl rfl rfl (by kernel_rfl) (fun _ _ _ h => h) hS0 (by rfl) (fun W hX => by go_simp) ?_
              simp only [Act.put, List.setIfInBounds_toArray, List.set_cons_zero, List.set_cons_succ]
              refine wpAnyT_take 21 (some 109) (.pointer (some ⟨bt, ot + k, none⟩)) #[true, true, true, true, true, true, true, true, true, true, true, true, true, true, true, true, true, true, true, true, true, true, false, false, false, false, false, false, false, false, false, false, false, false, false, false, false, false, false] rfl rfl rfl (by kernel_rfl) (fun _ _ _ h => h) hS0 (by rfl) (fun W hX => by go_simp) ?_
              simp only [Act.put, List.setIfInBounds_toArray, List.set_cons_zero, List.set_cons_succ]
              refine wpAnyT_take 22 (some 110) (.string ⟨s.toArray⟩) #[true, true, true, true, true, true, true, true, true, true, true, true, true, true, true, true, true, true, true, true, true, true, true, false, false, false, false, false, false, false, false, false, false, false, false, false, false, false, false] rfl rfl rfl (by kernel_rfl) (fun _ _ _ h => h) hS0 (by rfl) (fun W hX => by have s0 := HCt.out W hX; go_simp) ?_
              simp only [Act.put, List.setIfInBounds_toArray, List.set_cons_zero, List.set_cons_succ]
              refine wpAnyT_take 23 (some 111) (.bool false) #[true, true, true, true, true, true, true, true, true, true, true, true, true, true, true, true, true, true, true, true, true, true, true, true, false, false, false, false, false, false, false, false, false, false, false, false, false, false, false] rfl rfl rfl (by kernel_rfl) (fun _ _ _ h => h) hS0 (by rfl) (fun W hX => by go_simp) ?_
              simp only [Act.put, List.setIfInBounds_toArray, List.set_cons_zero, List.set_cons_succ]
              refine wpAnyT_take 24 (some 112) (.bool false) #[true, true, true, true, true, true, true, true, true, true, true, true, true, true, true, true, true, true, true, true, true, true, true, true, true, false, false, false, false, false, false, false, false, false, false, false, false, false, false] rfl rfl rfl (by kernel_rfl) (fun _ _ _ h => h) hS0 (by rfl) (fun W hX => by go_simp) ?_
              simp only [Act.put, List.setIfInBounds_toArray, List.set_cons_zero, List.set_cons_succ]
              refine wpAnyT_take 25 (some 113) (.bool false) #[true, true, true, true, true, true, true, true, true, true, true, true, true, true, true, true, true, true, true, true, true, true, true, true, true, true, false, false, false, false, false, false, false, false, false, false, false, false, false] rfl rfl rfl (by kernel_rfl) (fun _ _ _ h => h) hS0 (by rfl) (fun W hX => by go_simp) ?_
              simp only [Act.put, List.setIfInBounds_toArray, List.set_cons_zero, List.set_cons_succ]
              refine wpAnyT_take 26 (some 114) (.pointer (some ⟨g6, 1, none⟩)) #[true, true, true, true, true, true, true, true, true, true, true, true, true, true, true, true, true, true, true, true, true, true, true, true, true, true, true, false, false, false, false, false, false, false, false, false, false, false, false] rfl rfl rfl (by kernel_rfl) (fun _ _ _ h => h) hS0 (by rfl) (fun W hX => by go_simp) ?_
              simp only [Act.put, List.setIfInBounds_toArray, List.set_cons_zero, List.set_cons_succ]
              refine wpAnyT_take 27 (some 115) (.slice (some ⟨vx, zx, none⟩) mxn cx) #[true, true, true, true, true, true, true, true, true, true, true, true, true, true, true, true, true, true, true, true, true, true, true, true, true, true, true, true, false, false, false, false, false, false, false, false, false, false, false] rfl rfl rfl (by kernel_rfl) (fun _ _ _ h => h) hS0 (by rfl) (fun W hX => by have s0 := (HWx9.out.ext hX).at 1 (u := .slice (some ⟨vx, zx, none⟩) mxn cx) rfl; go_simp) ?_
              simp only [Act.put, List.setIfInBounds_toArray, List.set_cons_zero, List.set_cons_succ]
              refine wpAnyT_take 28 (some 116) (.int .i64 (q : Int)) #[true, true, true, true, true, true, true, true, true, true, true, true, true, true, true, true, true, true, true, true, true, true, true, true, true, true, true, true, true, false, false, false, false, false, false, false, false, false, false] rfl rfl rfl (by kernel_rfl) (fun _ _ _ h => h) hS0 (by rfl) (fun W hX => by go_simp) ?_
              simp only [Act.put, List.setIfInBounds_toArray, List.set_cons_zero, List.set_cons_succ]
              refine wpAnyT_take 29 (some 117) (.pointer (some ⟨vx, zx + q, none⟩)) #[true, true, true, true, true, true, true, true, true, true, true, true, true, true, true, true, true, true, true, true, true, true, true, true, true, true, true, true, true, true, false, false, false, false, false, false, false, false, false] rfl rfl rfl (by kernel_rfl) (fun _ _ _ h => h) hS0 (by rfl) (fun W hX => by go_simp) ?_
              simp only [Act.put, List.setIfInBounds_toArray, List.set_cons_zero, List.set_cons_succ]
              refine wpAnyT_take 30 (some 118) (.slice a5 m c5) #[true, true, true, true, true, true, true, true, true, true, true, true, true, true, true, true, true, true, true, true, true, true, true, true, true, true, true, true, true, true, true, false, false, false, false, false, false, false, false] rfl rfl rfl (by kernel_rfl) (fun _ _ _ h => h) hS0 (by rfl) (fun W hX => by have s0 := HCv.out W hX; go_simp) ?_
              simp only [Act.put, List.setIfInBounds_toArray, List.set_cons_zero, List.set_cons_succ]
              refine wpAnyT_take 33 (some 121) (.slice a3 m c3) #[true, true, true, true, true, true, true, true, true, true, true, true, true, true, true, true, true, true, true, true, true, true, true, true, true, true, true, true, true, true, true, false, false, true, false, false, false, false, false] rfl rfl rfl (by kernel_rfl) (fun _ _ _ h => h) hS0 (by rfl) (fun W hX => by go_simp) ?_
              simp only [Act.put, List.setIfInBounds_toArray, List.set_cons_zero, List.set_cons_succ]
              generalize hwd : wr.drew = wd at *
              clear hwd
              refine wpAnyT_two 31 34 #[true, true, true, true, true, true, true, true, true, true, true, true, true, true, true, true, true, true, true, true, true, true, true, true, true, true, true, true, true, true, true, true, false, true, false, false, false, false, false] #[true, true, true, true, true, true, true, true, true, true, true, true, true, true, true, true, true, true, true, true, true, true, true, true, true, true, true, true, true, true, true, false, false, true, true, false, false, false, false] (by kernel_rfl) rfl rfl rfl rfl (by rfl) (by rfl) (fun K0 hK0 => ?_) (fun K0 hK0 => ?_)
              · go_simp
                obtain ⟨ga, hga⟩ : ∃ g, g = wd.heap.size := ⟨_, rfl⟩
                have hEa := extNew wd (.cells #[.slice a5 m c5] 36)
                have hWa := Whole.new wd 36 #[.slice a5 m c5]
                rw [← hga] at hWa ⊢
                obtain ⟨wa, hwa⟩ : ∃ W, W = wd.alloc (.cells #[.slice a5 m c5] 36) := ⟨_, rfl⟩
                rw [← hwa] at hEa hWa ⊢
                clear hwa hga
                refine hK0 _ _ (fun _ => hS0.trans hEa) ?_
                clear hK0 K0
                refine wpAnyT_pure 32 (some 120) (.agg #[.slice none 0 0, .slice (some ⟨ga, 0, none⟩) 1 1]) #[true, true, true, true, true, true, true, true, true, true, true, true, true, true, true, true, true, true, true, true, true, true, true, true, true, true, true, true, true, true, true, true, true, true, false, false, false, false, false] rfl rfl rfl (by kernel_rfl) (fun _ _ _ h => h) (fun _ => hS0.trans hEa) (by rfl) (fun W => by go_simp) ?_
                simp only [Act.put, List.setIfInBounds_toArray, List.set_cons_zero, List.set_cons_succ]
                refine wpAnyT_only 34 #[true, true, true, true, true, true, true, true, true, true, true, true, true, true, true, true, true, true, true, true, true, true, true, true, true, true, true, true, true, true, true, true, true, true, true, false, false, false, false] (by kernel_rfl) rfl rfl (by rfl) (fun K1 hK1 => ?_)
                go_simp
                obtain ⟨gb, hgb⟩ : ∃ g, g = wa.heap.size := ⟨_, rfl⟩
                have hEb := extNew wa (.cells #[.slice a3 m c3] 36)
                have hWb := Whole.new wa 36 #[.slice a3 m c3]
                rw [← hgb] at hWb ⊢
                obtain ⟨wb, hwb⟩ : ∃ W, W = wa.alloc (.cells #[.slice a3 m c3] 36) := ⟨_, rfl⟩
                rw [← hwb] at hEb hWb ⊢
                clear hwb hgb
                have hSb := (hS0.trans hEa).trans hEb
                refine hK1 _ _ (fun _ => hSb) ?_
                clear hK1 K1
                refine wpAnyT_pure 35 (some 123) (.agg #[.slice none 0 0, .slice (some ⟨gb, 0, none⟩) 1 1]) #[true, true, true, true, true, true, true, true, true, true, true, true, true, true, true, true, true, true, true, true, true, true, true, true, true, true, true, true, true, true, true, true, true, true, true, true, false, false, false] rfl rfl rfl (by kernel_rfl) (fun _ _ _ h => h) (fun _ => hSb) (by rfl) (fun W => by go_simp) ?_
                simp only [Act.put, List.setIfInBounds_toArray, List.set_cons_zero, List.set_cons_succ]
                refine wpAnyT_only 36 #[true, true, true, true, true, true, true, true, true, true, true, true, true, true, true, true, true, true, true, true, true, true, true, true, true, true, true, true, true, true, true, true, true, true, true, true, true, false, false] (by kernel_rfl) rfl rfl (by rfl) (fun K2 hK2 => ?_)
                go_simp
                go_at_call 10
                have CSm := same_lists (W := wb) ga gb (a3) a5 c3 c5 il (by rw [← HMl.out]; omega) (by rw [← HMl.out]; exact (hWa.ext hEb)) (by rw [← HMl.out]; exact hWb) (by rw [← HMl.out]; exact HC5.out) (by rw [← HMl.out]; exact ⟨HCc.out, HEm.out⟩) (by rw [← HMl.out]; exact HQ5.out wb hSb) (by rw [← HMl.out]; exact HQ3.out wb hSb)
                refine CSm.mono ?_
                rintro e wz ⟨rfl, hEz⟩
                have hSz := hSb.trans hEz
                refine hK2 _ _ (fun _ => hSz) ?_
                clear hK2 K2 CSm
                refine wpAnyT_only 37 #[true, true, true, true, true, true, true, true, true, true, true, true, true, true, true, true, true, true, true, true, true, true, true, true, true, true, true, true, true, true, true, true, true, true, true, true, true, true, false] (by kernel_rfl) rfl rfl (by rfl) (fun K3 hK3 => ?_)
                go_simp
                refine hK3 _ _ (fun _ => hSz) ?_
                clear hK3 K3
                refine wpAnyT_only 38 #[true, true, true, true, true, true, true, true, true, true, true, true, true, true, true, true, true, true, true, true, true, true, true, true, true, true, true, true, true, true, true, true, true, true, true, true, true, true, true] (by kernel_rfl) rfl rfl (by rfl) (fun K4 hK4 => ?_)
                go_simp
                refine hK4 _ _ (fun h => absurd h (by decide)) (wpAnyT_done (by kernel_rfl) ?_ _)
                clear hK4 K4
                go_wp2_with fail
                go_roundw
                case rel => exact ⟨k + 1, q + 1, by omega, by have := HQlt.out; omega, by go_num, by go_num, HNext.out, hSz⟩
                case measure => simp [intOf]; omega
              · go_simp
                obtain ⟨ga, hga⟩ : ∃ g, g = wd.heap.size := ⟨_, rfl⟩
                have hEa := extNew wd (.cells #[.slice a3 m c3] 36)
                have hWa := Whole.new wd 36 #[.slice a3 m c3]
                rw [← hga] at hWa ⊢
                obtain ⟨wa, hwa⟩ : ∃ W, W = wd.alloc (.cells #[.slice a3 m c3] 36) := ⟨_, rfl⟩
                rw [← hwa] at hEa hWa ⊢
                clear hwa hga
                refine hK0 _ _ (fun _ => hS0.trans hEa) ?_
                clear hK0 K0
                refine wpAnyT_pure 35 (some 123) (.agg #[.slice none 0 0, .slice (some ⟨ga, 0, none⟩) 1 1]) #[true, true, true, true, true, true, true, true, true, true, true, true, true, true, true, true, true, true, true, true, true, true, true, true, true, true, true, true, true, true, true, false, false, true, true, true, false, false, false] rfl rfl rfl (by kernel_rfl) (fun _ _ _ h => h) (fun _ => hS0.trans hEa) (by rfl) (fun W => by go_simp) ?_
                simp only [Act.put, List.setIfInBounds_toArray, List.set_cons_zero, List.set_cons_succ]
                refine wpAnyT_only 31 #[true, true, true, true, true, true, true, true, true, true, true, true, true, true, true, true, true, true, true, true, true, true, true, true, true, true, true, true, true, true, true, true, false, true, true, true, false, false, false] (by kernel_rfl) rfl rfl (by rfl) (fun K1 hK1 => ?_)
                go_simp
                obtain ⟨gb, hgb⟩ : ∃ g, g = wa.heap.size := ⟨_, rfl⟩
                have hEb := extNew wa (.cells #[.slice a5 m c5] 36)
                have hWb := Whole.new wa 36 #[.slice a5 m c5]
                rw [← hgb] at hWb ⊢
                obtain ⟨wb, hwb⟩ : ∃ W, W = wa.alloc (.cells #[.slice a5 m c5] 36) := ⟨_, rfl⟩
                rw [← hwb] at hEb hWb ⊢
                clear hwb hgb
                have hSb := (hS0.trans hEa).trans hEb
                refine hK1 _ _ (fun _ => hSb) ?_
                clear hK1 K1
                refine wpAnyT_pure 32 (some 120) (.agg #[.slice none 0 0, .slice (some ⟨gb, 0, none⟩) 1 1]) #[true, true, true, true, true, true, true, true, true, true, true, true, true, true, true, true, true, true, true, true, true, true, true, true, true, true, true, true, true, true, true, true, true, true, true, true, false, false, false] rfl rfl rfl (by kernel_rfl) (fun _ _ _ h => h) (fun _ => hSb) (by rfl) (fun W => by go_simp) ?_
                simp only [Act.put, List.setIfInBounds_toArray, List.set_cons_zero, List.set_cons_succ]
                refine wpAnyT_only 36 #[true, true, true, true, true, true, true, true, true, true, true, true, true, true, true, true, true, true, true, true, true, true, true, true, true, true, true, true, true, true, true, true, true, true, true, true, true, false, false] (by kernel_rfl) rfl rfl (by rfl) (fun K2 hK2 => ?_)
                go_simp
                go_at_call 10
                have CSm := same_lists (W := wb) gb ga (a3) a5 c3 c5 il (by rw [← HMl.out]; omega) (by rw [← HMl.out]; exact hWb) (by rw [← HMl.out]; exact (hWa.ext hEb)) (by rw [← HMl.out]; exact HC5.out) (by rw [← HMl.out]; exact ⟨HCc.out, HEm.out⟩) (by rw [← HMl.out]; exact HQ5.out wb hSb) (by rw [← HMl.out]; exact HQ3.out wb hSb)
                refine CSm.mono ?_
                rintro e wz ⟨rfl, hEz⟩
                have hSz := hSb.trans hEz
                refine hK2 _ _ (fun _ => hSz) ?_
                clear hK2 K2 CSm
                refine wpAnyT_only 37 #[true, true, true, true, true, true, true, true, true, true, true, true, true, true, true, true, true, true, true, true, true, true, true, true, true, true, true, true, true, true, true, true, true, true, true, true, true, true, false] (by kernel_rfl) rfl rfl (by rfl) (fun K3 hK3 => ?_)
                go_simp
                refine hK3 _ _ (fun _ => hSz) ?_
                clear hK3 K3
                refine wpAnyT_only 38 #[true, true, true, true, true, true, true, true, true, true, true, true, true, true, true, true, true, true, true, true, true, true, true, true, true, true, true, true, true, true, true, true, true, true, true, true, true, true, true] (by kernel_rfl) rfl rfl (by rfl) (fun K4 hK4 => ?_)
                go_simp
                refine hK4 _ _ (fun h => absurd h (by decide)) (wpAnyT_done (by kernel_rfl) ?_ _)
                clear hK4 K4
                go_wp2_with fail
                go_roundw
                case rel => exact ⟨k + 1, q + 1, by omega, by have := HQlt.out; omega, by go_num, by go_num, HNext.out, hSz⟩
                case measure => simp [intOf]; omega
        · have hkI : ¬ (k : Int) < (myn : Int) := by omega
          obtain rfl : k = myn := by omega
          obtain rfl : q = mxn := HDone.out q hq hXq
          clear hlt
          go_wp2
          go_ret
          exact ⟨by simp, HEw9.out.trans HE.out⟩
end Go.Proofs.Ytcphapdjimeoaaa

