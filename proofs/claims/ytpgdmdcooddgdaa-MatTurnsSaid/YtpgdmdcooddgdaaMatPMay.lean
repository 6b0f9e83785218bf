/- Contract of the program's May. -/
import Derived.Test.YtpgdmdcooddgdaaMatPBase
import Derived.Test.YtpgdmdcooddgdaaMatLaw
namespace Go.Proofs.Ytpgdmdcooddgdaa
open Go.RowKit

set_option maxHeartbeats 1000000 in
set_option maxRecDepth 100000 in
theorem may_any (m : MV) (A : Option Addr) (k : Nat) (w : World) (hn : m.l.length ≤ maxLen) :
    Calls Try.prog 15 #[m.arg A k] w fun e w' => e = .returned (.bool m.may) ∧ Ext w w' := by
  obtain ⟨r, c, l⟩ := m
  have hE := extNew w (.cells #[.int .i64 r, .int .i64 c, .slice A l.length k] 24)
  have HM := hide (show MV.may ⟨r, c, l⟩ = decide (0 ≤ r ∧ r ≤ 255 ∧ 0 ≤ c ∧ c ≤ 255 ∧ (l.length : Int) = r * c) from rfl)
  have C1 := counts_any r
  have C2 := counts_any c
  unfold MV.arg
  dsimp only at hn ⊢
  by_cases hr : 0 ≤ r ∧ r ≤ 255
  · rw [decide_eq_true hr] at C1
    by_cases hc : 0 ≤ c ∧ c ≤ 255
    · rw [decide_eq_true hc] at C2
      have h1 : 0 ≤ r * c := Int.mul_nonneg hr.1 hc.1
      have h2 : r * c ≤ 255 * 255 := Int.mul_le_mul hr.2 hc.2 hc.1 (by decide)
      have hw : IntKind.i64.wrap (r * c) = r * c := by rw [IntKind.wrap_i64]; omega
      have HM2 := hide (show MV.may ⟨r, c, l⟩ = decide ((l.length : Int) = r * c) by rw [HM.out]; simp [hr.1, hr.2, hc.1, hc.2])
      clear HM hr hc
      go_enter Try.func15, Try.ntmps15
      go_wp2_with fail
      refine (C1 _).mono ?_
      rintro e w1 ⟨rfl, rfl⟩
      go_wp2_with fail
      refine (C2 _).mono ?_
      rintro e w1 ⟨rfl, rfl⟩
      go_wp2
      go_ret
      exact ⟨ret_bool (by rw [HM2.out, Bool.eq_iff_iff]; simp), hE⟩
    · rw [decide_eq_false hc] at C2
      have HM2 := hide (show MV.may ⟨r, c, l⟩ = false by rw [HM.out]; simp; omega)
      clear HM hr hc
      go_enter Try.func15, Try.ntmps15
      go_wp2_with fail
      refine (C1 _).mono ?_
      rintro e w1 ⟨rfl, rfl⟩
      go_wp2_with fail
      refine (C2 _).mono ?_
      rintro e w1 ⟨rfl, rfl⟩
      go_wp2
      go_ret
      exact ⟨ret_bool (by rw [HM2.out]), hE⟩
  · rw [decide_eq_false hr] at C1
    have HM2 := hide (show MV.may ⟨r, c, l⟩ = false by rw [HM.out]; simp; omega)
    clear HM hr
    go_enter Try.func15, Try.ntmps15
    go_wp2_with fail
    refine (C1 _).mono ?_
    rintro e w1 ⟨rfl, rfl⟩
    go_wp2
    go_ret
    exact ⟨ret_bool (by rw [HM2.out]), hE⟩

theorem mpMay (w : World) : MatMayC w := fun m A k W _ h => may_any m A k W h.2.1
end Go.Proofs.Ytpgdmdcooddgdaa
