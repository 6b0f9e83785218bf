/- The contract of the document's Div. -/
import Derived.Test.YtedkajpodepkiaaGfRef
namespace Go.Proofs.Ytedkajpodepkiaa
open Go.RowKit

set_option maxHeartbeats 1000000 in
set_option maxRecDepth 100000 in
theorem refDiv_any (a b : Nat) (w : World) (ha : a < 256) (hb : b < 256) : Calls Try.prog 45 #[.int .u8 a, .int .u8 b] w fun e w' => e = .returned (.tuple #[.int .u8 (((Gf.divR a b).1 : Nat) : Int), .int .i64 (Gf.divR a b).2]) ∧ w = w' := by
  have CM := fun x (hx : x < 256) => refMul_any b x w hb hx
  have HR := hide (show Gf.divR a b = if b = 0 then (0, 13) else (Gf.mul a (Gf.inv b), 0) from rfl)
  by_cases h0 : b = 0
  · have h0' : ((b : Int) == 0) = true := by simp; omega
    have H0 := hide h0
    clear CM h0
    go_enter Try.func45, Try.ntmps45
    go_wp2
    go_ret2
    exact ⟨ret_u8err (by rw [HR.out, if_pos H0.out]), rfl⟩
  have h0' : ((b : Int) == 0) = false := by simp; omega
  have H0 := hide h0
  clear h0
  go_enter Try.func45, Try.ntmps45
  go_wp2
  go_loop [6] (fun i => ∃ k : Nat, k ≤ 256 ∧ i = .int .i64 (k : Int) ∧ ∀ j, j < k → Gf.mul b j ≠ a) (fun i => 256 - (intOf i).toNat)
  case atStart => exact ⟨0, by omega, rfl, fun j h2 => by omega⟩
  case round =>
    obtain ⟨k, hk, rfl, hno⟩ := hrel
    by_cases hlt : k < 256
    · have C := CM k hlt
      have hk8 : IntKind.u8.wrap (k : Int) = (k : Int) := by rw [IntKind.wrap_u8']; omega
      have hml := Gf.mul_lt hb hlt
      obtain ⟨x, hx⟩ : ∃ x, x = Gf.mul b k := ⟨_, rfl⟩
      rw [← hx] at C hml
      have HX := hide hx
      have HN := hide hno
      clear hx hno
      by_cases h1 : x = a
      · subst h1
        go_wp2_with fail
        refine C.mono ?_
        rintro e w2 ⟨rfl, rfl⟩
        go_wp2
        go_ret2
        exact ⟨ret_u8err (by rw [HR.out, if_neg H0.out, Gf.div_only ha hb hlt H0.out HX.out.symm]), rfl⟩
      · have h1' : ((x : Int) == (a : Int)) = false := by simp; omega
        have HX1 := hide h1
        clear h1
        go_wp2_with fail
        refine C.mono ?_
        rintro e w2 ⟨rfl, rfl⟩
        go_wp2
        go_round
        case rel =>
          refine ⟨k + 1, by omega, by go_num, fun j hj => ?_⟩
          by_cases hjk : j = k
          · subst hjk
            rw [← HX.out]
            exact HX1.out
          · exact HN.out j (by omega)
        case measure => simp [intOf]; omega
    · obtain rfl : k = 256 := by omega
      exact absurd (Gf.mul_div ha hb H0.out) (hno _ (Gf.mul_lt ha (Gf.inv_lt hb H0.out)))
end Go.Proofs.Ytedkajpodepkiaa
