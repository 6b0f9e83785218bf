/- The document's Check of chapter 19. -/
import Derived.Test.YtlhncfjeleibmaaOptVal
import Derived.BigQuiet
namespace Go.Proofs.Ytlhncfjeleibmaa
open Go.RowKit Opt

set_option maxHeartbeats 4000000 in
set_option maxRecDepth 100000 in
theorem refCheck_1 (v b : Int) (p : Bool) (k d y c : Int) (hv : v = 1) (w : World) : Calls Try.prog 10 #[.int .i64 v, .agg (optC b p k d y c)] w fun e w' => e = .returned (.int .i64 (chk v b k d y c)) ∧ Ext w w' := by
  unfold optC
  have hE1 := extNew w (.cells #[.int .i64 b, .bool p, .int .i64 k, .int .i64 d, .int .i64 y, .int .i64 c] 23)
  have hW1 := Whole.new w 23 #[.int .i64 b, .bool p, .int .i64 k, .int .i64 d, .int .i64 y, .int .i64 c]
  have c0 := hW1.at 0 rfl
  have c2 := hW1.at 2 rfl
  have c3 := hW1.at 3 rfl
  have c4 := hW1.at 4 rfl
  have c5 := hW1.at 5 rfl
  obtain ⟨res, hres⟩ : ∃ res, res = chk v b k d y c := ⟨_, rfl⟩
  rw [← hres]
  have HC := hide hres
  clear hres hW1
  subst hv
  by_cases g : b < 16
  · skip
    have HR := hide (show res = _ from HC.out.trans (chk_9 (by omega) (by omega) (by unfold MayE; omega)))
    clear HC
    go_enter Try.func10, Try.ntmps10
    go_wp2
    go_ret
    exact ⟨ret_i64 HR.out.symm, hE1⟩
  rw [Int.not_lt] at g
  by_cases g : 32768 < b
  · skip
    have HR := hide (show res = _ from HC.out.trans (chk_9 (by omega) (by omega) (by unfold MayE; omega)))
    clear HC
    go_enter Try.func10, Try.ntmps10
    go_wp2
    go_ret
    exact ⟨ret_i64 HR.out.symm, hE1⟩
  rw [Int.not_lt] at g
  by_cases g : k = 0
  rotate_left
  · have gb : (k == 0) = false := by rw [beq_eq_false_iff_ne]; exact g
    have HR := hide (show res = _ from HC.out.trans (chk_9 (by omega) (by omega) (by unfold MayE; omega)))
    clear HC
    go_enter Try.func10, Try.ntmps10
    go_wp2
    go_ret
    exact ⟨ret_i64 HR.out.symm, hE1⟩
  subst g
  by_cases g : d = 0
  rotate_left
  · have gb : (d == 0) = false := by rw [beq_eq_false_iff_ne]; exact g
    have HR := hide (show res = _ from HC.out.trans (chk_9 (by omega) (by omega) (by unfold MayE; omega)))
    clear HC
    go_enter Try.func10, Try.ntmps10
    go_wp2
    go_ret
    exact ⟨ret_i64 HR.out.symm, hE1⟩
  subst g
  by_cases g : y = 0
  rotate_left
  · have gb : (y == 0) = false := by rw [beq_eq_false_iff_ne]; exact g
    have HR := hide (show res = _ from HC.out.trans (chk_9 (by omega) (by omega) (by unfold MayE; omega)))
    clear HC
    go_enter Try.func10, Try.ntmps10
    go_wp2
    go_ret
    exact ⟨ret_i64 HR.out.symm, hE1⟩
  subst g
  by_cases g : c = 0
  rotate_left
  · have gb : (c == 0) = false := by rw [beq_eq_false_iff_ne]; exact g
    have HR := hide (show res = _ from HC.out.trans (chk_9 (by omega) (by omega) (by unfold MayE; omega)))
    clear HC
    go_enter Try.func10, Try.ntmps10
    go_wp2
    go_ret
    exact ⟨ret_i64 HR.out.symm, hE1⟩
  subst g
  have HR := hide (show res = _ from HC.out.trans (chk_0 (by omega) (by omega) (by unfold MayE; omega)))
  clear HC
  go_enter Try.func10, Try.ntmps10
  go_wp2
  go_ret
  exact ⟨ret_i64 HR.out.symm, hE1⟩
set_option maxHeartbeats 4000000 in
set_option maxRecDepth 100000 in
theorem refCheck_2 (v b : Int) (p : Bool) (k d y c : Int) (hv : v = 2) (w : World) : Calls Try.prog 10 #[.int .i64 v, .agg (optC b p k d y c)] w fun e w' => e = .returned (.int .i64 (chk v b k d y c)) ∧ Ext w w' := by
  unfold optC
  have hE1 := extNew w (.cells #[.int .i64 b, .bool p, .int .i64 k, .int .i64 d, .int .i64 y, .int .i64 c] 23)
  have hW1 := Whole.new w 23 #[.int .i64 b, .bool p, .int .i64 k, .int .i64 d, .int .i64 y, .int .i64 c]
  have c0 := hW1.at 0 rfl
  have c2 := hW1.at 2 rfl
  have c3 := hW1.at 3 rfl
  have c4 := hW1.at 4 rfl
  have c5 := hW1.at 5 rfl
  obtain ⟨res, hres⟩ : ∃ res, res = chk v b k d y c := ⟨_, rfl⟩
  rw [← hres]
  have HC := hide hres
  clear hres hW1
  subst hv
  by_cases g : b < 16
  · skip
    have HR := hide (show res = _ from HC.out.trans (chk_9 (by omega) (by omega) (by unfold MayE; omega)))
    clear HC
    go_enter Try.func10, Try.ntmps10
    go_wp2
    go_ret
    exact ⟨ret_i64 HR.out.symm, hE1⟩
  rw [Int.not_lt] at g
  by_cases g : 32768 < b
  · skip
    have HR := hide (show res = _ from HC.out.trans (chk_9 (by omega) (by omega) (by unfold MayE; omega)))
    clear HC
    go_enter Try.func10, Try.ntmps10
    go_wp2
    go_ret
    exact ⟨ret_i64 HR.out.symm, hE1⟩
  rw [Int.not_lt] at g
  by_cases g : k < 1
  · skip
    have HR := hide (show res = _ from HC.out.trans (chk_9 (by omega) (by omega) (by unfold MayE; omega)))
    clear HC
    go_enter Try.func10, Try.ntmps10
    go_wp2
    go_ret
    exact ⟨ret_i64 HR.out.symm, hE1⟩
  rw [Int.not_lt] at g
  by_cases g : 64 < k
  · skip
    have HR := hide (show res = _ from HC.out.trans (chk_9 (by omega) (by omega) (by unfold MayE; omega)))
    clear HC
    go_enter Try.func10, Try.ntmps10
    go_wp2
    go_ret
    exact ⟨ret_i64 HR.out.symm, hE1⟩
  rw [Int.not_lt] at g
  by_cases g : d = 0
  rotate_left
  · have gb : (d == 0) = false := by rw [beq_eq_false_iff_ne]; exact g
    have HR := hide (show res = _ from HC.out.trans (chk_9 (by omega) (by omega) (by unfold MayE; omega)))
    clear HC
    go_enter Try.func10, Try.ntmps10
    go_wp2
    go_ret
    exact ⟨ret_i64 HR.out.symm, hE1⟩
  subst g
  by_cases g : y = 0
  rotate_left
  · have gb : (y == 0) = false := by rw [beq_eq_false_iff_ne]; exact g
    have HR := hide (show res = _ from HC.out.trans (chk_9 (by omega) (by omega) (by unfold MayE; omega)))
    clear HC
    go_enter Try.func10, Try.ntmps10
    go_wp2
    go_ret
    exact ⟨ret_i64 HR.out.symm, hE1⟩
  subst g
  by_cases g : c = 0
  rotate_left
  · have gb : (c == 0) = false := by rw [beq_eq_false_iff_ne]; exact g
    have HR := hide (show res = _ from HC.out.trans (chk_9 (by omega) (by omega) (by unfold MayE; omega)))
    clear HC
    go_enter Try.func10, Try.ntmps10
    go_wp2
    go_ret
    exact ⟨ret_i64 HR.out.symm, hE1⟩
  subst g
  have HR := hide (show res = _ from HC.out.trans (chk_0 (by omega) (by omega) (by unfold MayE; omega)))
  clear HC
  go_enter Try.func10, Try.ntmps10
  go_wp2
  go_ret
  exact ⟨ret_i64 HR.out.symm, hE1⟩
set_option maxHeartbeats 4000000 in
set_option maxRecDepth 100000 in
theorem refCheck_3 (v b : Int) (p : Bool) (k d y c : Int) (hv : v = 3) (w : World) : Calls Try.prog 10 #[.int .i64 v, .agg (optC b p k d y c)] w fun e w' => e = .returned (.int .i64 (chk v b k d y c)) ∧ Ext w w' := by
  unfold optC
  have hE1 := extNew w (.cells #[.int .i64 b, .bool p, .int .i64 k, .int .i64 d, .int .i64 y, .int .i64 c] 23)
  have hW1 := Whole.new w 23 #[.int .i64 b, .bool p, .int .i64 k, .int .i64 d, .int .i64 y, .int .i64 c]
  have c0 := hW1.at 0 rfl
  have c2 := hW1.at 2 rfl
  have c3 := hW1.at 3 rfl
  have c4 := hW1.at 4 rfl
  have c5 := hW1.at 5 rfl
  obtain ⟨res, hres⟩ : ∃ res, res = chk v b k d y c := ⟨_, rfl⟩
  rw [← hres]
  have HC := hide hres
  clear hres hW1
  subst hv
  by_cases g : b < 16
  · skip
    have HR := hide (show res = _ from HC.out.trans (chk_9 (by omega) (by omega) (by unfold MayE; omega)))
    clear HC
    go_enter Try.func10, Try.ntmps10
    go_wp2
    go_ret
    exact ⟨ret_i64 HR.out.symm, hE1⟩
  rw [Int.not_lt] at g
  by_cases g : 32768 < b
  · skip
    have HR := hide (show res = _ from HC.out.trans (chk_9 (by omega) (by omega) (by unfold MayE; omega)))
    clear HC
    go_enter Try.func10, Try.ntmps10
    go_wp2
    go_ret
    exact ⟨ret_i64 HR.out.symm, hE1⟩
  rw [Int.not_lt] at g
  by_cases g : k < 1
  · skip
    have HR := hide (show res = _ from HC.out.trans (chk_9 (by omega) (by omega) (by unfold MayE; omega)))
    clear HC
    go_enter Try.func10, Try.ntmps10
    go_wp2
    go_ret
    exact ⟨ret_i64 HR.out.symm, hE1⟩
  rw [Int.not_lt] at g
  by_cases g : 64 < k
  · skip
    have HR := hide (show res = _ from HC.out.trans (chk_9 (by omega) (by omega) (by unfold MayE; omega)))
    clear HC
    go_enter Try.func10, Try.ntmps10
    go_wp2
    go_ret
    exact ⟨ret_i64 HR.out.symm, hE1⟩
  rw [Int.not_lt] at g
  by_cases g : d < 1
  · skip
    have HR := hide (show res = _ from HC.out.trans (chk_9 (by omega) (by omega) (by unfold MayE; omega)))
    clear HC
    go_enter Try.func10, Try.ntmps10
    go_wp2
    go_ret
    exact ⟨ret_i64 HR.out.symm, hE1⟩
  rw [Int.not_lt] at g
  by_cases g : 255 < d
  · skip
    have HR := hide (show res = _ from HC.out.trans (chk_9 (by omega) (by omega) (by unfold MayE; omega)))
    clear HC
    go_enter Try.func10, Try.ntmps10
    go_wp2
    go_ret
    exact ⟨ret_i64 HR.out.symm, hE1⟩
  rw [Int.not_lt] at g
  by_cases g : y < 0
  · skip
    have HR := hide (show res = _ from HC.out.trans (chk_9 (by omega) (by omega) (by unfold MayE; omega)))
    clear HC
    go_enter Try.func10, Try.ntmps10
    go_wp2
    go_ret
    exact ⟨ret_i64 HR.out.symm, hE1⟩
  rw [Int.not_lt] at g
  by_cases g : 255 - d < y
  · skip
    have HR := hide (show res = _ from HC.out.trans (chk_9 (by omega) (by omega) (by unfold MayE; omega)))
    clear HC
    go_enter Try.func10, Try.ntmps10
    go_wp2
    go_ret
    exact ⟨ret_i64 HR.out.symm, hE1⟩
  rw [Int.not_lt] at g
  by_cases g : c < 1
  · skip
    have HR := hide (show res = _ from HC.out.trans (chk_9 (by omega) (by omega) (by unfold MayE; omega)))
    clear HC
    go_enter Try.func10, Try.ntmps10
    go_wp2
    go_ret
    exact ⟨ret_i64 HR.out.symm, hE1⟩
  rw [Int.not_lt] at g
  by_cases g : 4096 < c
  · skip
    have HR := hide (show res = _ from HC.out.trans (chk_9 (by omega) (by omega) (by unfold MayE; omega)))
    clear HC
    go_enter Try.func10, Try.ntmps10
    go_wp2
    go_ret
    exact ⟨ret_i64 HR.out.symm, hE1⟩
  rw [Int.not_lt] at g
  have HR := hide (show res = _ from HC.out.trans (chk_0 (by omega) (by omega) (by unfold MayE; omega)))
  clear HC
  go_enter Try.func10, Try.ntmps10
  go_wp2
  go_ret
  exact ⟨ret_i64 HR.out.symm, hE1⟩
set_option maxHeartbeats 4000000 in
set_option maxRecDepth 100000 in
theorem refCheck_4 (v b : Int) (p : Bool) (k d y c : Int) (hv : ¬ (1 ≤ v ∧ v ≤ 3)) (w : World) : Calls Try.prog 10 #[.int .i64 v, .agg (optC b p k d y c)] w fun e w' => e = .returned (.int .i64 (chk v b k d y c)) ∧ Ext w w' := by
  unfold optC
  have hE1 := extNew w (.cells #[.int .i64 b, .bool p, .int .i64 k, .int .i64 d, .int .i64 y, .int .i64 c] 23)
  have hW1 := Whole.new w 23 #[.int .i64 b, .bool p, .int .i64 k, .int .i64 d, .int .i64 y, .int .i64 c]
  have c0 := hW1.at 0 rfl
  have c2 := hW1.at 2 rfl
  have c3 := hW1.at 3 rfl
  have c4 := hW1.at 4 rfl
  have c5 := hW1.at 5 rfl
  obtain ⟨res, hres⟩ : ∃ res, res = chk v b k d y c := ⟨_, rfl⟩
  rw [← hres]
  have HC := hide hres
  clear hres hW1
  have HV := hide hv
  by_cases g : v < 1
  · clear hv
    have HR := hide (show res = _ from HC.out.trans (chk_4 HV.out))
    clear HC
    go_enter Try.func10, Try.ntmps10
    go_wp2
    go_ret
    exact ⟨ret_i64 HR.out.symm, hE1⟩
  · have g3 : 3 < v := by omega
    clear hv
    have HR := hide (show res = _ from HC.out.trans (chk_4 HV.out))
    clear HC
    go_enter Try.func10, Try.ntmps10
    go_wp2
    go_ret
    exact ⟨ret_i64 HR.out.symm, hE1⟩
theorem refCheck_any (v b : Int) (p : Bool) (k d y c : Int) (w : World) : Calls Try.prog 10 #[.int .i64 v, .agg (optC b p k d y c)] w fun e w' => e = .returned (.int .i64 (chk v b k d y c)) ∧ Ext w w' := by
  by_cases h1 : v = 1
  · exact refCheck_1 v b p k d y c h1 w
  by_cases h2 : v = 2
  · exact refCheck_2 v b p k d y c h2 w
  by_cases h3 : v = 3
  · exact refCheck_3 v b p k d y c h3 w
  exact refCheck_4 v b p k d y c (by omega) w
end Go.Proofs.Ytlhncfjeleibmaa
