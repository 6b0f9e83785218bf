/- The products of one element, as an array. -/
import Derived.Test.YtpgdmdcooddgdaaGfAddDef
namespace Go.Proofs.Ytpgdmdcooddgdaa
open Go.RowKit

/-- The products of c, as an array. -/
def Gf.rowV (c : Nat) : Array Value := ((List.range 256).map fun i => Value.int .u8 ((Gf.mul c i : Nat) : Int)).toArray
theorem Gf.rowV_size (c : Nat) : (Gf.rowV c).size = 256 := by simp [Gf.rowV]
theorem Gf.rowV_at (c : Nat) {i : Nat} (hi : i < 256) : (Gf.rowV c)[i]? = some (.int .u8 ((Gf.mul c i : Nat) : Int)) := by simp [Gf.rowV, hi]
theorem Gf.rowV_one (c : Nat) : (Gf.rowV c).all (·.oneCell') = true := by
  simp [Gf.rowV]
  intros
  rfl
theorem row_zero : ∃ Z : Array Value, Z.size = 256 ∧ ∀ W : World, (zeroValue 74).run Try.prog W = .ok (.agg Z) W := by
  refine ⟨Array.replicate 256 (.int .u8 0), by simp, fun W => ?_⟩
  have h : (Try.prog.info? 74).map (fun i => i.zero) = some (some (.agg (Array.replicate 256 (.int .u8 0)))) := by kernel_rfl
  obtain ⟨i, hi, hz⟩ := Option.map_eq_some_iff.1 h
  simp [zeroValue, typeInfo, hi, hz]
theorem row_info : (Try.prog.info? 74).map (·.size) = some 256 := by kernel_rfl
end Go.Proofs.Ytpgdmdcooddgdaa
