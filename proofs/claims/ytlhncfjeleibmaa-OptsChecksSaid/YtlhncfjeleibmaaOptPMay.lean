/- The program's isThere, isFrom, mayStripe of chapter 19. -/
import Derived.Test.YtlhncfjeleibmaaOptVal
import Derived.BigQuiet
namespace Go.Proofs.Ytlhncfjeleibmaa
open Go.RowKit Opt

set_option maxHeartbeats 1000000 in
theorem pThere_any (v : Int) (w : World) : Calls Try.prog 18 #[.int .i64 v] w fun e w' => e = .returned (.bool (decide (1 ≤ v ∧ v ≤ 3))) ∧ Ext w w' := by
  obtain ⟨res, hres⟩ : ∃ res, res = decide (1 ≤ v ∧ v ≤ 3) := ⟨_, rfl⟩
  rw [← hres]
  have HC := hide hres
  clear hres
  by_cases h1 : 1 ≤ v
  · by_cases h3 : v ≤ 3
    · have HR := hide (show res = true from HC.out.trans (decide_eq_true ⟨h1, h3⟩))
      clear HC
      go_enter Try.func18, Try.ntmps18
      go_wp2
      go_ret
      exact ⟨ret_bool HR.out.symm, Ext.refl _⟩
    · have HR := hide (show res = false from HC.out.trans (decide_eq_false fun h => h3 h.2))
      clear HC
      go_enter Try.func18, Try.ntmps18
      go_wp2
      go_ret
      exact ⟨ret_bool HR.out.symm, Ext.refl _⟩
  · have HR := hide (show res = false from HC.out.trans (decide_eq_false fun h => h1 h.1))
    clear HC
    go_enter Try.func18, Try.ntmps18
    go_wp2
    go_ret
    exact ⟨ret_bool HR.out.symm, Ext.refl _⟩

set_option maxHeartbeats 1000000 in
theorem pFrom_any (a z x : Int) (w : World) : Calls Try.prog 21 #[.int .i64 a, .int .i64 z, .int .i64 x] w fun e w' => e = .returned (.bool (decide (a ≤ x ∧ x ≤ z))) ∧ Ext w w' := by
  obtain ⟨res, hres⟩ : ∃ res, res = decide (a ≤ x ∧ x ≤ z) := ⟨_, rfl⟩
  rw [← hres]
  have HC := hide hres
  clear hres
  by_cases h1 : a ≤ x
  · by_cases h3 : x ≤ z
    · have HR := hide (show res = true from HC.out.trans (decide_eq_true ⟨h1, h3⟩))
      clear HC
      go_enter Try.func21, Try.ntmps21
      go_wp2
      go_ret
      exact ⟨ret_bool HR.out.symm, Ext.refl _⟩
    · have HR := hide (show res = false from HC.out.trans (decide_eq_false fun h => h3 h.2))
      clear HC
      go_enter Try.func21, Try.ntmps21
      go_wp2
      go_ret
      exact ⟨ret_bool HR.out.symm, Ext.refl _⟩
  · have HR := hide (show res = false from HC.out.trans (decide_eq_false fun h => h1 h.1))
    clear HC
    go_enter Try.func21, Try.ntmps21
    go_wp2
    go_ret
    exact ⟨ret_bool HR.out.symm, Ext.refl _⟩

/-- There may be stripes of these. -/
def StripeE (d y c : Int) : Prop := 0 ≤ y ∧ (1 ≤ d ∧ d ≤ 255 - y) ∧ 1 ≤ c ∧ c ≤ 4096
instance (d y c : Int) : Decidable (StripeE d y c) := by unfold StripeE; infer_instance

set_option maxHeartbeats 2000000 in
set_option maxRecDepth 100000 in
theorem pStripe_any (b : Int) (p : Bool) (k d y c : Int) (hy : y ≤ 9223372036854775807) (w : World) : Calls Try.prog 20 #[.agg (optC b p k d y c)] w fun e w' => e = .returned (.bool (decide (StripeE d y c))) ∧ Ext w w' := by
  unfold optC
  have hE1 := extNew w (.cells #[.int .i64 b, .bool p, .int .i64 k, .int .i64 d, .int .i64 y, .int .i64 c] 23)
  have hW1 := Whole.new w 23 #[.int .i64 b, .bool p, .int .i64 k, .int .i64 d, .int .i64 y, .int .i64 c]
  have c3 := hW1.at 3 rfl
  have c4 := hW1.at 4 rfl
  have c5 := hW1.at 5 rfl
  have F1 := fun W => pFrom_any 1 (255 - y) d W
  have F2 := fun W => pFrom_any 1 4096 c W
  obtain ⟨res, hres⟩ : ∃ res, res = decide (StripeE d y c) := ⟨_, rfl⟩
  rw [← hres]
  have HC := hide hres
  clear hres
  by_cases g : 0 ≤ y
  · by_cases g1 : 1 ≤ d ∧ d ≤ 255 - y
    · by_cases g2 : 1 ≤ c ∧ c ≤ 4096
      · have HR := hide (show res = true from HC.out.trans (decide_eq_true ⟨g, g1, g2⟩))
        rw [decide_eq_true g1] at F1
        rw [decide_eq_true g2] at F2
        clear HC g1 g2
        go_enter Try.func20, Try.ntmps20
        go_wp2_with fail
        refine (F1 _).mono ?_
        rintro e w2 ⟨rfl, hE2⟩
        have c5' := (hW1.ext hE2).at 5 rfl
        go_wp2_with fail
        refine (F2 _).mono ?_
        rintro e w3 ⟨rfl, hE3⟩
        go_wp2
        go_ret
        exact ⟨ret_bool HR.out.symm, (hE1.trans hE2).trans hE3⟩
      · have HR := hide (show res = false from HC.out.trans (decide_eq_false fun h => g2 h.2.2))
        rw [decide_eq_true g1] at F1
        rw [decide_eq_false g2] at F2
        clear HC g1 g2
        go_enter Try.func20, Try.ntmps20
        go_wp2_with fail
        refine (F1 _).mono ?_
        rintro e w2 ⟨rfl, hE2⟩
        have c5' := (hW1.ext hE2).at 5 rfl
        go_wp2_with fail
        refine (F2 _).mono ?_
        rintro e w3 ⟨rfl, hE3⟩
        go_wp2
        go_ret
        exact ⟨ret_bool HR.out.symm, (hE1.trans hE2).trans hE3⟩
    · have HR := hide (show res = false from HC.out.trans (decide_eq_false fun h => g1 h.2.1))
      rw [decide_eq_false g1] at F1
      clear HC g1 F2
      go_enter Try.func20, Try.ntmps20
      go_wp2_with fail
      refine (F1 _).mono ?_
      rintro e w2 ⟨rfl, hE2⟩
      go_wp2
      go_ret
      exact ⟨ret_bool HR.out.symm, hE1.trans hE2⟩
  · have HR := hide (show res = false from HC.out.trans (decide_eq_false fun h => g h.1))
    clear HC F1 F2
    go_enter Try.func20, Try.ntmps20
    go_wp2
    go_ret
    exact ⟨ret_bool HR.out.symm, hE1⟩
end Go.Proofs.Ytlhncfjeleibmaa
