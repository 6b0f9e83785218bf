/- The program's may and Check of chapter 19. -/
import Derived.Test.YtlhncfjeleibmaaOptPMay
namespace Go.Proofs.Ytlhncfjeleibmaa
open Go.RowKit Opt

set_option maxHeartbeats 4000000 in
set_option maxRecDepth 100000 in
theorem pMay_1 (b : Int) (p : Bool) (k d y c : Int) (w : World) : Calls Try.prog 19 #[.int .i64 1, .agg (optC b p k d y c)] w fun e w' => e = .returned (.bool (decide (MayE 1 b k d y c))) ∧ Ext w w' := by
  unfold optC
  have hE1 := extNew w (.cells #[.int .i64 b, .bool p, .int .i64 k, .int .i64 d, .int .i64 y, .int .i64 c] 23)
  have hW1 := Whole.new w 23 #[.int .i64 b, .bool p, .int .i64 k, .int .i64 d, .int .i64 y, .int .i64 c]
  have FB := fun W => pFrom_any 16 32768 b W
  obtain ⟨res, hres⟩ : ∃ res, res = decide (MayE 1 b k d y c) := ⟨_, rfl⟩
  rw [← hres]
  have HC := hide hres
  clear hres
  by_cases gB : 16 ≤ b ∧ b ≤ 32768
  rotate_left
  · rw [decide_eq_false gB] at FB
    have HR := hide (show res = false from HC.out.trans (decide_eq_false (by unfold MayE; omega)))
    clear HC
    go_enter Try.func19, Try.ntmps19
    have c0 := hW1.at 0 rfl
    go_wp2_with fail
    refine (FB _).mono ?_
    rintro e w4 ⟨rfl, hE4⟩
    have hW4 := hW1.ext hE4
    have hF4 := hE1.trans hE4
    clear FB c0 hE1 hE4 hW1
    go_wp2
    go_ret
    exact ⟨ret_bool HR.out.symm, hF4⟩
  rw [decide_eq_true gB] at FB
  by_cases gk : k = 0
  rotate_left
  · have gb : (k == 0) = false := by rw [beq_eq_false_iff_ne]; exact gk
    have HR := hide (show res = false from HC.out.trans (decide_eq_false (by unfold MayE; omega)))
    clear HC
    go_enter Try.func19, Try.ntmps19
    have c0 := hW1.at 0 rfl
    go_wp2_with fail
    refine (FB _).mono ?_
    rintro e w4 ⟨rfl, hE4⟩
    have hW4 := hW1.ext hE4
    have hF4 := hE1.trans hE4
    clear FB c0 hE1 hE4 hW1
    have c0 := hW4.at 0 rfl
    have c1 := hW4.at 1 rfl
    have c2 := hW4.at 2 rfl
    have c3 := hW4.at 3 rfl
    have c4 := hW4.at 4 rfl
    have c5 := hW4.at 5 rfl
    go_wp2
    go_ret
    exact ⟨ret_bool HR.out.symm, hF4⟩
  subst gk
  by_cases gd : d = 0
  rotate_left
  · have gb : (d == 0) = false := by rw [beq_eq_false_iff_ne]; exact gd
    have HR := hide (show res = false from HC.out.trans (decide_eq_false (by unfold MayE; omega)))
    clear HC
    go_enter Try.func19, Try.ntmps19
    have c0 := hW1.at 0 rfl
    go_wp2_with fail
    refine (FB _).mono ?_
    rintro e w4 ⟨rfl, hE4⟩
    have hW4 := hW1.ext hE4
    have hF4 := hE1.trans hE4
    clear FB c0 hE1 hE4 hW1
    have c0 := hW4.at 0 rfl
    have c1 := hW4.at 1 rfl
    have c2 := hW4.at 2 rfl
    have c3 := hW4.at 3 rfl
    have c4 := hW4.at 4 rfl
    have c5 := hW4.at 5 rfl
    go_wp2
    go_ret
    exact ⟨ret_bool HR.out.symm, hF4⟩
  subst gd
  by_cases gy : y = 0
  rotate_left
  · have gb : (y == 0) = false := by rw [beq_eq_false_iff_ne]; exact gy
    have HR := hide (show res = false from HC.out.trans (decide_eq_false (by unfold MayE; omega)))
    clear HC
    go_enter Try.func19, Try.ntmps19
    have c0 := hW1.at 0 rfl
    go_wp2_with fail
    refine (FB _).mono ?_
    rintro e w4 ⟨rfl, hE4⟩
    have hW4 := hW1.ext hE4
    have hF4 := hE1.trans hE4
    clear FB c0 hE1 hE4 hW1
    have c0 := hW4.at 0 rfl
    have c1 := hW4.at 1 rfl
    have c2 := hW4.at 2 rfl
    have c3 := hW4.at 3 rfl
    have c4 := hW4.at 4 rfl
    have c5 := hW4.at 5 rfl
    go_wp2
    go_ret
    exact ⟨ret_bool HR.out.symm, hF4⟩
  subst gy
  by_cases gc : c = 0
  rotate_left
  · have gb : (c == 0) = false := by rw [beq_eq_false_iff_ne]; exact gc
    have HR := hide (show res = false from HC.out.trans (decide_eq_false (by unfold MayE; omega)))
    clear HC
    go_enter Try.func19, Try.ntmps19
    have c0 := hW1.at 0 rfl
    go_wp2_with fail
    refine (FB _).mono ?_
    rintro e w4 ⟨rfl, hE4⟩
    have hW4 := hW1.ext hE4
    have hF4 := hE1.trans hE4
    clear FB c0 hE1 hE4 hW1
    have c0 := hW4.at 0 rfl
    have c1 := hW4.at 1 rfl
    have c2 := hW4.at 2 rfl
    have c3 := hW4.at 3 rfl
    have c4 := hW4.at 4 rfl
    have c5 := hW4.at 5 rfl
    go_wp2
    go_ret
    exact ⟨ret_bool HR.out.symm, hF4⟩
  subst gc
  have HR := hide (show res = true from HC.out.trans (decide_eq_true (by unfold MayE; omega)))
  clear HC
  go_enter Try.func19, Try.ntmps19
  have c0 := hW1.at 0 rfl
  go_wp2_with fail
  refine (FB _).mono ?_
  rintro e w4 ⟨rfl, hE4⟩
  have hW4 := hW1.ext hE4
  have hF4 := hE1.trans hE4
  clear FB c0 hE1 hE4 hW1
  have c0 := hW4.at 0 rfl
  have c1 := hW4.at 1 rfl
  have c2 := hW4.at 2 rfl
  have c3 := hW4.at 3 rfl
  have c4 := hW4.at 4 rfl
  have c5 := hW4.at 5 rfl
  go_wp2
  go_ret
  exact ⟨ret_bool HR.out.symm, hF4⟩
set_option maxHeartbeats 4000000 in
set_option maxRecDepth 100000 in
theorem pMay_2 (b : Int) (p : Bool) (k d y c : Int) (w : World) : Calls Try.prog 19 #[.int .i64 2, .agg (optC b p k d y c)] w fun e w' => e = .returned (.bool (decide (MayE 2 b k d y c))) ∧ Ext w w' := by
  unfold optC
  have hE1 := extNew w (.cells #[.int .i64 b, .bool p, .int .i64 k, .int .i64 d, .int .i64 y, .int .i64 c] 23)
  have hW1 := Whole.new w 23 #[.int .i64 b, .bool p, .int .i64 k, .int .i64 d, .int .i64 y, .int .i64 c]
  have FK := fun W => pFrom_any 1 64 k W
  have FB := fun W => pFrom_any 16 32768 b W
  obtain ⟨res, hres⟩ : ∃ res, res = decide (MayE 2 b k d y c) := ⟨_, rfl⟩
  rw [← hres]
  have HC := hide hres
  clear hres
  by_cases gK : 1 ≤ k ∧ k ≤ 64
  rotate_left
  · rw [decide_eq_false gK] at FK
    have HR := hide (show res = false from HC.out.trans (decide_eq_false (by unfold MayE; omega)))
    clear HC
    go_enter Try.func19, Try.ntmps19
    have c2 := hW1.at 2 rfl
    go_wp2_with fail
    refine (FK _).mono ?_
    rintro e w3 ⟨rfl, hE3⟩
    have hW3 := hW1.ext hE3
    have hF3 := hE1.trans hE3
    clear FK c2 hE1 hE3 hW1
    go_wp2
    go_ret
    exact ⟨ret_bool HR.out.symm, hF3⟩
  rw [decide_eq_true gK] at FK
  by_cases gB : 16 ≤ b ∧ b ≤ 32768
  rotate_left
  · rw [decide_eq_false gB] at FB
    have HR := hide (show res = false from HC.out.trans (decide_eq_false (by unfold MayE; omega)))
    clear HC
    go_enter Try.func19, Try.ntmps19
    have c2 := hW1.at 2 rfl
    go_wp2_with fail
    refine (FK _).mono ?_
    rintro e w3 ⟨rfl, hE3⟩
    have hW3 := hW1.ext hE3
    have hF3 := hE1.trans hE3
    clear FK c2 hE1 hE3 hW1
    have c0 := hW3.at 0 rfl
    have c2 := hW3.at 2 rfl
    have z2 := hW3.frozen 2
    go_wp2_with fail
    refine (FB _).mono ?_
    rintro e w4 ⟨rfl, hE4⟩
    have hW4 : Whole w4 w.heap.size 23 #[.int .i64 b, .bool p, .int .i64 0, .int .i64 d, .int .i64 y, .int .i64 c] := (hW3.set 2 (.int .i64 0)).ext hE4
    have hF4 : Ext w w4 := (hF3.setCell (Nat.le_refl _) (.int .i64 0)).trans hE4
    clear FB c0 c2 z2 hE4 hF3 hW3
    go_wp2
    go_ret
    exact ⟨ret_bool HR.out.symm, hF4⟩
  rw [decide_eq_true gB] at FB
  by_cases gd : d = 0
  rotate_left
  · have gb : (d == 0) = false := by rw [beq_eq_false_iff_ne]; exact gd
    have HR := hide (show res = false from HC.out.trans (decide_eq_false (by unfold MayE; omega)))
    clear HC
    go_enter Try.func19, Try.ntmps19
    have c2 := hW1.at 2 rfl
    go_wp2_with fail
    refine (FK _).mono ?_
    rintro e w3 ⟨rfl, hE3⟩
    have hW3 := hW1.ext hE3
    have hF3 := hE1.trans hE3
    clear FK c2 hE1 hE3 hW1
    have c0 := hW3.at 0 rfl
    have c2 := hW3.at 2 rfl
    have z2 := hW3.frozen 2
    go_wp2_with fail
    refine (FB _).mono ?_
    rintro e w4 ⟨rfl, hE4⟩
    have hW4 : Whole w4 w.heap.size 23 #[.int .i64 b, .bool p, .int .i64 0, .int .i64 d, .int .i64 y, .int .i64 c] := (hW3.set 2 (.int .i64 0)).ext hE4
    have hF4 : Ext w w4 := (hF3.setCell (Nat.le_refl _) (.int .i64 0)).trans hE4
    clear FB c0 c2 z2 hE4 hF3 hW3
    have c0 := hW4.at 0 rfl
    have c1 := hW4.at 1 rfl
    have c2 := hW4.at 2 rfl
    have c3 := hW4.at 3 rfl
    have c4 := hW4.at 4 rfl
    have c5 := hW4.at 5 rfl
    go_wp2
    go_ret
    exact ⟨ret_bool HR.out.symm, hF4⟩
  subst gd
  by_cases gy : y = 0
  rotate_left
  · have gb : (y == 0) = false := by rw [beq_eq_false_iff_ne]; exact gy
    have HR := hide (show res = false from HC.out.trans (decide_eq_false (by unfold MayE; omega)))
    clear HC
    go_enter Try.func19, Try.ntmps19
    have c2 := hW1.at 2 rfl
    go_wp2_with fail
    refine (FK _).mono ?_
    rintro e w3 ⟨rfl, hE3⟩
    have hW3 := hW1.ext hE3
    have hF3 := hE1.trans hE3
    clear FK c2 hE1 hE3 hW1
    have c0 := hW3.at 0 rfl
    have c2 := hW3.at 2 rfl
    have z2 := hW3.frozen 2
    go_wp2_with fail
    refine (FB _).mono ?_
    rintro e w4 ⟨rfl, hE4⟩
    have hW4 : Whole w4 w.heap.size 23 #[.int .i64 b, .bool p, .int .i64 0, .int .i64 0, .int .i64 y, .int .i64 c] := (hW3.set 2 (.int .i64 0)).ext hE4
    have hF4 : Ext w w4 := (hF3.setCell (Nat.le_refl _) (.int .i64 0)).trans hE4
    clear FB c0 c2 z2 hE4 hF3 hW3
    have c0 := hW4.at 0 rfl
    have c1 := hW4.at 1 rfl
    have c2 := hW4.at 2 rfl
    have c3 := hW4.at 3 rfl
    have c4 := hW4.at 4 rfl
    have c5 := hW4.at 5 rfl
    go_wp2
    go_ret
    exact ⟨ret_bool HR.out.symm, hF4⟩
  subst gy
  by_cases gc : c = 0
  rotate_left
  · have gb : (c == 0) = false := by rw [beq_eq_false_iff_ne]; exact gc
    have HR := hide (show res = false from HC.out.trans (decide_eq_false (by unfold MayE; omega)))
    clear HC
    go_enter Try.func19, Try.ntmps19
    have c2 := hW1.at 2 rfl
    go_wp2_with fail
    refine (FK _).mono ?_
    rintro e w3 ⟨rfl, hE3⟩
    have hW3 := hW1.ext hE3
    have hF3 := hE1.trans hE3
    clear FK c2 hE1 hE3 hW1
    have c0 := hW3.at 0 rfl
    have c2 := hW3.at 2 rfl
    have z2 := hW3.frozen 2
    go_wp2_with fail
    refine (FB _).mono ?_
    rintro e w4 ⟨rfl, hE4⟩
    have hW4 : Whole w4 w.heap.size 23 #[.int .i64 b, .bool p, .int .i64 0, .int .i64 0, .int .i64 0, .int .i64 c] := (hW3.set 2 (.int .i64 0)).ext hE4
    have hF4 : Ext w w4 := (hF3.setCell (Nat.le_refl _) (.int .i64 0)).trans hE4
    clear FB c0 c2 z2 hE4 hF3 hW3
    have c0 := hW4.at 0 rfl
    have c1 := hW4.at 1 rfl
    have c2 := hW4.at 2 rfl
    have c3 := hW4.at 3 rfl
    have c4 := hW4.at 4 rfl
    have c5 := hW4.at 5 rfl
    go_wp2
    go_ret
    exact ⟨ret_bool HR.out.symm, hF4⟩
  subst gc
  have HR := hide (show res = true from HC.out.trans (decide_eq_true (by unfold MayE; omega)))
  clear HC
  go_enter Try.func19, Try.ntmps19
  have c2 := hW1.at 2 rfl
  go_wp2_with fail
  refine (FK _).mono ?_
  rintro e w3 ⟨rfl, hE3⟩
  have hW3 := hW1.ext hE3
  have hF3 := hE1.trans hE3
  clear FK c2 hE1 hE3 hW1
  have c0 := hW3.at 0 rfl
  have c2 := hW3.at 2 rfl
  have z2 := hW3.frozen 2
  go_wp2_with fail
  refine (FB _).mono ?_
  rintro e w4 ⟨rfl, hE4⟩
  have hW4 : Whole w4 w.heap.size 23 #[.int .i64 b, .bool p, .int .i64 0, .int .i64 0, .int .i64 0, .int .i64 0] := (hW3.set 2 (.int .i64 0)).ext hE4
  have hF4 : Ext w w4 := (hF3.setCell (Nat.le_refl _) (.int .i64 0)).trans hE4
  clear FB c0 c2 z2 hE4 hF3 hW3
  have c0 := hW4.at 0 rfl
  have c1 := hW4.at 1 rfl
  have c2 := hW4.at 2 rfl
  have c3 := hW4.at 3 rfl
  have c4 := hW4.at 4 rfl
  have c5 := hW4.at 5 rfl
  go_wp2
  go_ret
  exact ⟨ret_bool HR.out.symm, hF4⟩
set_option maxHeartbeats 4000000 in
set_option maxRecDepth 100000 in
theorem pMay_3 (b : Int) (p : Bool) (k d y c : Int) (hy : y ≤ 9223372036854775807) (w : World) : Calls Try.prog 19 #[.int .i64 3, .agg (optC b p k d y c)] w fun e w' => e = .returned (.bool (decide (MayE 3 b k d y c))) ∧ Ext w w' := by
  have FS := fun W => pStripe_any b p k d y c hy W
  unfold optC at FS ⊢
  have hE1 := extNew w (.cells #[.int .i64 b, .bool p, .int .i64 k, .int .i64 d, .int .i64 y, .int .i64 c] 23)
  have hW1 := Whole.new w 23 #[.int .i64 b, .bool p, .int .i64 k, .int .i64 d, .int .i64 y, .int .i64 c]
  have FK := fun W => pFrom_any 1 64 k W
  have FB := fun W => pFrom_any 16 32768 b W
  obtain ⟨res, hres⟩ : ∃ res, res = decide (MayE 3 b k d y c) := ⟨_, rfl⟩
  rw [← hres]
  have HC := hide hres
  clear hres hy
  by_cases gS : StripeE d y c
  rotate_left
  · rw [decide_eq_false gS] at FS
    unfold StripeE at gS
    have HR := hide (show res = false from HC.out.trans (decide_eq_false (by unfold MayE; omega)))
    clear HC
    go_enter Try.func19, Try.ntmps19
    go_wp2_with (refine wpList_load_row rfl 23 (.tmp 3) rfl _ rfl _ _ _ _ hW1 Try.underlying23 rfl opt_info ?_)
    refine (FS _).mono ?_
    rintro e w2 ⟨rfl, hE2⟩
    have hW2 := hW1.ext hE2
    have hF2 := hE1.trans hE2
    clear FS
    go_wp2
    go_ret
    exact ⟨ret_bool HR.out.symm, hF2⟩
  rw [decide_eq_true gS] at FS
  unfold StripeE at gS
  by_cases gK : 1 ≤ k ∧ k ≤ 64
  rotate_left
  · rw [decide_eq_false gK] at FK
    have HR := hide (show res = false from HC.out.trans (decide_eq_false (by unfold MayE; omega)))
    clear HC
    go_enter Try.func19, Try.ntmps19
    go_wp2_with (refine wpList_load_row rfl 23 (.tmp 3) rfl _ rfl _ _ _ _ hW1 Try.underlying23 rfl opt_info ?_)
    refine (FS _).mono ?_
    rintro e w2 ⟨rfl, hE2⟩
    have hW2 := hW1.ext hE2
    have hF2 := hE1.trans hE2
    clear FS
    have c2 := hW2.at 2 rfl
    have c3 := hW2.at 3 rfl
    have c4 := hW2.at 4 rfl
    have c5 := hW2.at 5 rfl
    have z3 := hW2.frozen 3
    have z4 := hW2.frozen 4
    have z5 := hW2.frozen 5
    go_wp2_with fail
    refine (FK _).mono ?_
    rintro e w3 ⟨rfl, hE3⟩
    have hW3 : Whole w3 w.heap.size 23 #[.int .i64 b, .bool p, .int .i64 k, .int .i64 0, .int .i64 0, .int .i64 0] := (((hW2.set 3 (.int .i64 0)).set 4 (.int .i64 0)).set 5 (.int .i64 0)).ext hE3
    have hF3 : Ext w w3 := (((hF2.setCell (Nat.le_refl _) (.int .i64 0)).setCell (Nat.le_refl _) (.int .i64 0)).setCell (Nat.le_refl _) (.int .i64 0)).trans hE3
    clear FK c2 c3 c4 c5 z3 z4 z5 hE1 hE2 hE3 hW1 hW2 hF2
    go_wp2
    go_ret
    exact ⟨ret_bool HR.out.symm, hF3⟩
  rw [decide_eq_true gK] at FK
  by_cases gB : 16 ≤ b ∧ b ≤ 32768
  rotate_left
  · rw [decide_eq_false gB] at FB
    have HR := hide (show res = false from HC.out.trans (decide_eq_false (by unfold MayE; omega)))
    clear HC
    go_enter Try.func19, Try.ntmps19
    go_wp2_with (refine wpList_load_row rfl 23 (.tmp 3) rfl _ rfl _ _ _ _ hW1 Try.underlying23 rfl opt_info ?_)
    refine (FS _).mono ?_
    rintro e w2 ⟨rfl, hE2⟩
    have hW2 := hW1.ext hE2
    have hF2 := hE1.trans hE2
    clear FS
    have c2 := hW2.at 2 rfl
    have c3 := hW2.at 3 rfl
    have c4 := hW2.at 4 rfl
    have c5 := hW2.at 5 rfl
    have z3 := hW2.frozen 3
    have z4 := hW2.frozen 4
    have z5 := hW2.frozen 5
    go_wp2_with fail
    refine (FK _).mono ?_
    rintro e w3 ⟨rfl, hE3⟩
    have hW3 : Whole w3 w.heap.size 23 #[.int .i64 b, .bool p, .int .i64 k, .int .i64 0, .int .i64 0, .int .i64 0] := (((hW2.set 3 (.int .i64 0)).set 4 (.int .i64 0)).set 5 (.int .i64 0)).ext hE3
    have hF3 : Ext w w3 := (((hF2.setCell (Nat.le_refl _) (.int .i64 0)).setCell (Nat.le_refl _) (.int .i64 0)).setCell (Nat.le_refl _) (.int .i64 0)).trans hE3
    clear FK c2 c3 c4 c5 z3 z4 z5 hE1 hE2 hE3 hW1 hW2 hF2
    have c0 := hW3.at 0 rfl
    have c2 := hW3.at 2 rfl
    have z2 := hW3.frozen 2
    go_wp2_with fail
    refine (FB _).mono ?_
    rintro e w4 ⟨rfl, hE4⟩
    have hW4 : Whole w4 w.heap.size 23 #[.int .i64 b, .bool p, .int .i64 0, .int .i64 0, .int .i64 0, .int .i64 0] := (hW3.set 2 (.int .i64 0)).ext hE4
    have hF4 : Ext w w4 := (hF3.setCell (Nat.le_refl _) (.int .i64 0)).trans hE4
    clear FB c0 c2 z2 hE4 hF3 hW3
    go_wp2
    go_ret
    exact ⟨ret_bool HR.out.symm, hF4⟩
  rw [decide_eq_true gB] at FB
  have HR := hide (show res = true from HC.out.trans (decide_eq_true (by unfold MayE; omega)))
  clear HC
  go_enter Try.func19, Try.ntmps19
  go_wp2_with (refine wpList_load_row rfl 23 (.tmp 3) rfl _ rfl _ _ _ _ hW1 Try.underlying23 rfl opt_info ?_)
  refine (FS _).mono ?_
  rintro e w2 ⟨rfl, hE2⟩
  have hW2 := hW1.ext hE2
  have hF2 := hE1.trans hE2
  clear FS
  have c2 := hW2.at 2 rfl
  have c3 := hW2.at 3 rfl
  have c4 := hW2.at 4 rfl
  have c5 := hW2.at 5 rfl
  have z3 := hW2.frozen 3
  have z4 := hW2.frozen 4
  have z5 := hW2.frozen 5
  go_wp2_with fail
  refine (FK _).mono ?_
  rintro e w3 ⟨rfl, hE3⟩
  have hW3 : Whole w3 w.heap.size 23 #[.int .i64 b, .bool p, .int .i64 k, .int .i64 0, .int .i64 0, .int .i64 0] := (((hW2.set 3 (.int .i64 0)).set 4 (.int .i64 0)).set 5 (.int .i64 0)).ext hE3
  have hF3 : Ext w w3 := (((hF2.setCell (Nat.le_refl _) (.int .i64 0)).setCell (Nat.le_refl _) (.int .i64 0)).setCell (Nat.le_refl _) (.int .i64 0)).trans hE3
  clear FK c2 c3 c4 c5 z3 z4 z5 hE1 hE2 hE3 hW1 hW2 hF2
  have c0 := hW3.at 0 rfl
  have c2 := hW3.at 2 rfl
  have z2 := hW3.frozen 2
  go_wp2_with fail
  refine (FB _).mono ?_
  rintro e w4 ⟨rfl, hE4⟩
  have hW4 : Whole w4 w.heap.size 23 #[.int .i64 b, .bool p, .int .i64 0, .int .i64 0, .int .i64 0, .int .i64 0] := (hW3.set 2 (.int .i64 0)).ext hE4
  have hF4 : Ext w w4 := (hF3.setCell (Nat.le_refl _) (.int .i64 0)).trans hE4
  clear FB c0 c2 z2 hE4 hF3 hW3
  have c0 := hW4.at 0 rfl
  have c1 := hW4.at 1 rfl
  have c2 := hW4.at 2 rfl
  have c3 := hW4.at 3 rfl
  have c4 := hW4.at 4 rfl
  have c5 := hW4.at 5 rfl
  go_wp2
  go_ret
  exact ⟨ret_bool HR.out.symm, hF4⟩
theorem pMay_any (v b : Int) (p : Bool) (k d y c : Int) (h1 : 1 ≤ v) (h3 : v ≤ 3) (hy : y ≤ 9223372036854775807) (w : World) : Calls Try.prog 19 #[.int .i64 v, .agg (optC b p k d y c)] w fun e w' => e = .returned (.bool (decide (MayE v b k d y c))) ∧ Ext w w' := by
  rcases (show v = 1 ∨ v = 2 ∨ v = 3 by omega) with rfl | rfl | rfl
  · exact pMay_1 b p k d y c w
  · exact pMay_2 b p k d y c w
  · exact pMay_3 b p k d y c hy w

set_option maxHeartbeats 2000000 in
set_option maxRecDepth 100000 in
theorem pCheck_any (v b : Int) (p : Bool) (k d y c : Int) (hy : y ≤ 9223372036854775807) (w : World) : Calls Try.prog 9 #[.int .i64 v, .agg (optC b p k d y c)] w fun e w' => e = .returned (.int .i64 (chk v b k d y c)) ∧ Ext w w' := by
  have hE1 := extNew w (.cells (optC b p k d y c) 23)
  have hW1 := Whole.new w 23 (optC b p k d y c)
  have FT := fun W => pThere_any v W
  have FM := fun h1 h3 W => pMay_any v b p k d y c h1 h3 hy W
  obtain ⟨res, hres⟩ : ∃ res, res = chk v b k d y c := ⟨_, rfl⟩
  rw [← hres]
  have HC := hide hres
  clear hres hy
  unfold optC at *
  by_cases gT : 1 ≤ v ∧ v ≤ 3
  · rw [decide_eq_true gT] at FT
    have FM' := FM gT.1 gT.2
    clear FM
    by_cases gM : MayE v b k d y c
    · have HR := hide (show res = 0 from HC.out.trans (chk_0 gT.1 gT.2 gM))
      rw [decide_eq_true gM] at FM'
      clear HC gT gM
      go_enter Try.func9, Try.ntmps9
      go_wp2_with fail
      refine (FT _).mono ?_
      rintro e w2 ⟨rfl, hE2⟩
      have hW2 := hW1.ext hE2
      go_wp2_with (refine wpList_load_row rfl 23 (.tmp 3) rfl _ rfl _ _ _ _ hW2 Try.underlying23 rfl opt_info ?_)
      refine (FM' _).mono ?_
      rintro e w3 ⟨rfl, hE3⟩
      go_wp2
      go_ret
      exact ⟨ret_i64 HR.out.symm, (hE1.trans hE2).trans hE3⟩
    · have HR := hide (show res = 9 from HC.out.trans (chk_9 gT.1 gT.2 gM))
      rw [decide_eq_false gM] at FM'
      clear HC gT gM
      go_enter Try.func9, Try.ntmps9
      go_wp2_with fail
      refine (FT _).mono ?_
      rintro e w2 ⟨rfl, hE2⟩
      have hW2 := hW1.ext hE2
      go_wp2_with (refine wpList_load_row rfl 23 (.tmp 3) rfl _ rfl _ _ _ _ hW2 Try.underlying23 rfl opt_info ?_)
      refine (FM' _).mono ?_
      rintro e w3 ⟨rfl, hE3⟩
      go_wp2
      go_ret
      exact ⟨ret_i64 HR.out.symm, (hE1.trans hE2).trans hE3⟩
  · have HR := hide (show res = 4 from HC.out.trans (chk_4 gT))
    rw [decide_eq_false gT] at FT
    clear HC gT FM
    go_enter Try.func9, Try.ntmps9
    go_wp2_with fail
    refine (FT _).mono ?_
    rintro e w2 ⟨rfl, hE2⟩
    go_wp2
    go_ret
    exact ⟨ret_i64 HR.out.symm, hE1.trans hE2⟩
end Go.Proofs.Ytlhncfjeleibmaa
