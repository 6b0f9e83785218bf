/- The document's Identity and Cauchy, told. -/
import Derived.Test.YtbfkknoeaekajaaMatCauchy
namespace Go.Proofs.Ytbfkknoeaekajaa
open Go.RowKit

def identityE (n : Int) : MV × Int := if 0 ≤ n ∧ n ≤ 255 then (⟨n, n, cellsOf n.toNat Mat.one (n.toNat * n.toNat)⟩, 0) else (MV.zero, 13)
theorem identity_nat {n : Nat} (hn : n ≤ 255) : identityE n = (⟨n, n, cellsOf n Mat.one (n * n)⟩, 0) := by
  unfold identityE
  rw [if_pos ⟨by omega, by omega⟩]
  rfl
theorem refIdentity_E (n : Int) (W : World) : Calls Try.prog 31 #[.int .i64 n] W (MadeM W (identityE n).1 (identityE n).2) := by
  have h := refIdentity_any n W
  unfold identityE
  by_cases hc : 0 ≤ n ∧ n ≤ 255
  · rw [if_pos hc] at h ⊢
    exact h
  · rw [if_neg hc] at h ⊢
    exact h
theorem refCauchy_E (k m : Int) (W : World) : Calls Try.prog 34 #[.int .i64 k, .int .i64 m] W (MadeM W (cauchyE k m).1 (cauchyE k m).2) := by
  have h := refCauchy_any k m W
  unfold cauchyE
  by_cases hc : 0 ≤ k ∧ 0 ≤ m ∧ k + m ≤ 255
  · rw [if_pos hc] at h ⊢
    exact h
  · rw [if_neg hc] at h ⊢
    exact h
end Go.Proofs.Ytbfkknoeaekajaa
