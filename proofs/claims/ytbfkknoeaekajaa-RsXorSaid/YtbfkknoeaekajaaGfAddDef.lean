/- What Add and Dot tell. The products of one element, as an array. -/
import Derived.Test.YtbfkknoeaekajaaGfRef
import Derived.Test.YtbfkknoeaekajaaRegTail
import Derived.Deep.QuietTactic
import Derived.BigQuiet
import Derived.OpenShut
namespace Go.Proofs.Ytbfkknoeaekajaa
open Go.RowKit

namespace Gf
/-- The first k bytes of what Add tells. -/
def addN (to : List UInt8) (c : Nat) (b : List UInt8) : Nat → List UInt8
  | 0 => []
  | k + 1 => addN to c b k ++ [to.getD k 0 ^^^ UInt8.ofNat (mul c (b.getD k 0).toNat)]
theorem addN_len (to : List UInt8) (c : Nat) (b : List UInt8) : ∀ k, (addN to c b k).length = k
  | 0 => rfl
  | k + 1 => by rw [addN, List.length_append, addN_len]; rfl
def addR (to : List UInt8) (c : Nat) (b : List UInt8) : List UInt8 × Int := if to.length = b.length then (addN to c b b.length, 0) else ([], 13)
/-- The sum of the first k products. -/
def dotN (a b : List UInt8) : Nat → Nat
  | 0 => 0
  | k + 1 => dotN a b k ^^^ mul (a.getD k 0).toNat (b.getD k 0).toNat
theorem dotN_lt (a b : List UInt8) : ∀ k, dotN a b k < 256
  | 0 => by simp [dotN]
  | k + 1 => by
    rw [dotN]
    exact Nat.xor_lt_two_pow (n := 8) (dotN_lt a b k) (mul_lt (UInt8.toNat_lt _) (UInt8.toNat_lt _))
def dotR (a b : List UInt8) : Nat × Int := if a.length = b.length then (dotN a b a.length, 0) else (0, 13)
end Gf
theorem ret_verr2 {v : Value} {a : Int} {r : List UInt8 × Int} (h : r.2 = a) : Ending.returned (.tuple #[v, .int .i64 a]) = .returned (.tuple #[v, .int .i64 r.2]) := by rw [h]
/-- Behind a call that makes bytes, or tells an error. -/
def MadeR (w : World) (r : List UInt8 × Int) (e : Ending) (w' : World) : Prop := ∃ v, e = .returned (.tuple #[v, .int .i64 r.2]) ∧ OwnB w' w.heap.size v r.1 ∧ Ext w w'
theorem u8_xor_byteN (x : UInt8) (m : Nat) (hm : m < 256) : bits .xor .u8 (x.toNat : Int) (m : Int) = (((x ^^^ UInt8.ofNat m).toNat : Nat) : Int) := by
  rw [u8_xor_nat _ _ x.toNat_lt hm, UInt8.toNat_xor, UInt8.toNat_ofNat', Nat.mod_eq_of_lt hm]
end Go.Proofs.Ytbfkknoeaekajaa

namespace Go.Proofs.Ytbfkknoeaekajaa
open Go.RowKit

/-- The products of c, as an array. -/
def Gf.rowV (c : Nat) : Array Value := ((List.range 256).map fun i => Value.int .u8 ((Gf.mul c i : Nat) : Int)).toArray
theorem Gf.rowV_size (c : Nat) : (Gf.rowV c).size = 256 := by simp [Gf.rowV]
theorem Gf.rowV_at (c : Nat) {i : Nat} (hi : i < 256) : (Gf.rowV c)[i]? = some (.int .u8 ((Gf.mul c i : Nat) : Int)) := by simp [Gf.rowV, hi]
theorem Gf.rowV_one (c : Nat) : (Gf.rowV c).all (·.oneCell') = true := by
  simp [Gf.rowV]
  intros
  rfl
theorem row_zero : ∃ Z : Array Value, Z.size = 256 ∧ ∀ W : World, (zeroValue 69).run Try.prog W = .ok (.agg Z) W := by
  refine ⟨Array.replicate 256 (.int .u8 0), by simp, fun W => ?_⟩
  have h : (Try.prog.info? 69).map (fun i => i.zero) = some (some (.agg (Array.replicate 256 (.int .u8 0)))) := by kernel_rfl
  obtain ⟨i, hi, hz⟩ := Option.map_eq_some_iff.1 h
  simp [zeroValue, typeInfo, hi, hz]
theorem row_info : (Try.prog.info? 69).map (·.size) = some 256 := by kernel_rfl
end Go.Proofs.Ytbfkknoeaekajaa
