/- The contract of the document's Inv. -/
import Derived.Test.YtbfkknoeaekajaaGfRef
namespace Go.Proofs.Ytbfkknoeaekajaa
open Go.RowKit

set_option maxHeartbeats 1000000 in
set_option maxRecDepth 100000 in
theorem refInv_any (a : Nat) (w : World) (ha : a < 256) : Calls Try.prog 55 #[.int .u8 a] w fun e w' => e = .returned (.tuple #[.int .u8 (((Gf.invR a).1 : Nat) : Int), .int .i64 (Gf.invR a).2]) ∧ w = w' := by
  have CM := fun x (hx : x < 256) => refMul_any a x w ha hx
  have HR := hide (show Gf.invR a = if a = 0 then (0, 13) else (Gf.inv a, 0) from rfl)
  go_enter Try.func55, Try.ntmps55
  go_wp2
  go_loop [4] (fun i => ∃ k : Nat, 1 ≤ k ∧ k ≤ 256 ∧ i = .int .i64 (k : Int) ∧ ∀ j, 1 ≤ j → j < k → Gf.mul a j ≠ 1) (fun i => 256 - (intOf i).toNat)
  case atStart => exact ⟨1, by omega, by omega, rfl, fun j h1 h2 => by omega⟩
  case round =>
    obtain ⟨k, hk1, hk, rfl, hno⟩ := hrel
    by_cases hlt : k < 256
    · have C := CM k hlt
      have hk8 : IntKind.u8.wrap (k : Int) = (k : Int) := by rw [IntKind.wrap_u8']; omega
      have hml := Gf.mul_lt ha hlt
      obtain ⟨x, hx⟩ : ∃ x, x = Gf.mul a k := ⟨_, rfl⟩
      rw [← hx] at C hml
      have HX := hide hx
      have HN := hide hno
      clear hx hno
      by_cases h1 : x = 1
      · subst h1
        go_wp2_with fail
        refine C.mono ?_
        rintro e w2 ⟨rfl, rfl⟩
        go_wp2
        go_ret2
        have h0 : a ≠ 0 := fun h => by have := HX.out; rw [h, Gf.zero_mul] at this; omega
        exact ⟨ret_u8err (by rw [HR.out, if_neg h0, Gf.inv_only ha hlt h0 HX.out.symm]), rfl⟩
      · have h1' : ((x : Int) == 1) = false := by simp; omega
        have HX1 := hide h1
        clear h1
        go_wp2_with fail
        refine C.mono ?_
        rintro e w2 ⟨rfl, rfl⟩
        go_wp2
        go_round
        case rel =>
          refine ⟨k + 1, by omega, by omega, by go_num, fun j hj1 hj => ?_⟩
          by_cases hjk : j = k
          · subst hjk
            rw [← HX.out]
            exact HX1.out
          · exact HN.out j hj1 (by omega)
        case measure => simp [intOf]; omega
    · obtain rfl : k = 256 := by omega
      have h0 : a = 0 := by
        by_cases h : a = 0
        · exact h
        · have hne : Gf.inv a ≠ 0 := fun h' => by have := Gf.mul_inv ha h; rw [h', Gf.mul_zero] at this; omega
          exact absurd (Gf.mul_inv ha h) (hno _ (by omega) (Gf.inv_lt ha h))
      have H0 := hide h0
      clear hno h0
      go_wp2
      go_ret2
      exact ⟨ret_u8err (by rw [HR.out, if_pos H0.out]), rfl⟩
end Go.Proofs.Ytbfkknoeaekajaa
