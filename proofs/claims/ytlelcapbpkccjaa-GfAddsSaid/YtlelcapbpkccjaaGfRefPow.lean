/- Contracts of the document's field: Pow, Log. -/
import Derived.Test.YtlelcapbpkccjaaGfRef
namespace Go.Proofs.Ytlelcapbpkccjaa
open Go.RowKit

set_option maxHeartbeats 1000000 in
set_option maxRecDepth 100000 in
theorem refPow_any (a n : Nat) (w : World) (ha : a < 256) (hn : n ≤ 1000) : Calls Try.prog 22 #[.int .u8 a, .int .i64 n] w fun e w' => e = .returned (.int .u8 (Gf.pow a n : Nat)) ∧ w = w' := by
  have CM := fun x (hx : x < 256) => refMul_any x a w hx ha
  have HL := hide (Gf.pow_lt ha)
  go_enter Try.func22, Try.ntmps22
  go_wp2
  go_loop [5, 6] (fun x i => ∃ k : Nat, k ≤ n ∧ i = .int .i64 (k : Int) ∧ x = .int .u8 ((Gf.pow a k : Nat) : Int)) (fun _ i => n - (intOf i).toNat)
  case atStart => exact ⟨0, by omega, rfl, rfl⟩
  case round =>
    obtain ⟨k, hk, rfl, rfl⟩ := hrel
    by_cases hlt : k < n
    · have C := CM _ (HL.out k)
      obtain ⟨x, hx⟩ : ∃ x, x = Gf.pow a k := ⟨_, rfl⟩
      rw [← hx] at C ⊢
      have HX := hide hx
      clear hx
      go_wp2_with fail
      refine C.mono ?_
      rintro e w2 ⟨rfl, rfl⟩
      go_wp2
      go_round
      case rel => exact ⟨k + 1, by omega, by go_num, by rw [Gf.pow_succ, ← HX.out]⟩
      case measure => simp [intOf]; omega
    · obtain rfl : k = n := by omega
      go_wp2
      go_ret
      exact ⟨rfl, rfl⟩

set_option maxHeartbeats 1000000 in
set_option maxRecDepth 100000 in
theorem refLog_any (a : Nat) (w : World) (ha : a < 256) : Calls Try.prog 20 #[.int .u8 a] w fun e w' => e = .returned (.tuple #[.int .i64 (((Gf.logR a).1 : Nat) : Int), .int .i64 (Gf.logR a).2]) ∧ w = w' := by
  have CM := fun x (hx : x < 256) => refMul_any x 2 w hx (by decide)
  have HR := hide (show Gf.logR a = if a = 0 then (0, 13) else (Gf.logF a 255 0, 0) from rfl)
  have HL := hide (Gf.pow_lt (a := 2) (by decide))
  go_enter Try.func20, Try.ntmps20
  go_wp2
  go_loop [4, 5] (fun x i => ∃ k : Nat, k ≤ 255 ∧ i = .int .i64 (k : Int) ∧ x = .int .u8 ((Gf.pow 2 k : Nat) : Int) ∧ ∀ j, j < k → Gf.pow 2 j ≠ a) (fun _ i => 255 - (intOf i).toNat)
  case atStart => exact ⟨0, by omega, rfl, rfl, fun j h2 => by omega⟩
  case round =>
    obtain ⟨k, hk, rfl, rfl, hno⟩ := hrel
    by_cases hlt : k < 255
    · have C := CM _ (HL.out k)
      obtain ⟨x, hx⟩ : ∃ x, x = Gf.pow 2 k := ⟨_, rfl⟩
      rw [← hx] at C ⊢
      have HX := hide hx
      have HN := hide hno
      clear hx hno
      by_cases h1 : x = a
      · subst h1
        go_wp2
        go_ret2
        have h0 : x ≠ 0 := by rw [HX.out]; exact Gf.pow_ne_zero (by decide) (by decide) k
        exact ⟨ret_i64err (by rw [HR.out, if_neg h0, Gf.log_only hlt HX.out.symm]), rfl⟩
      · have h1' : ((x : Int) == (a : Int)) = false := by simp; omega
        have HX1 := hide h1
        clear h1
        go_wp2_with fail
        refine C.mono ?_
        rintro e w2 ⟨rfl, rfl⟩
        go_wp2
        go_round
        case rel =>
          refine ⟨k + 1, by omega, by go_num, by rw [Gf.pow_succ, ← HX.out], fun j hj => ?_⟩
          by_cases hjk : j = k
          · subst hjk
            rw [← HX.out]
            exact HX1.out
          · exact HN.out j (by omega)
        case measure => simp [intOf]; omega
    · obtain rfl : k = 255 := by omega
      have h0 : a = 0 := by
        by_cases h : a = 0
        · exact h
        · obtain ⟨n, hn, hp⟩ := Gf.log_exists ha h
          exact absurd hp (hno n hn)
      have H0 := hide h0
      clear hno h0
      go_wp2
      go_ret2
      exact ⟨ret_i64err (by rw [HR.out, if_pos H0.out]), rfl⟩
end Go.Proofs.Ytlelcapbpkccjaa
