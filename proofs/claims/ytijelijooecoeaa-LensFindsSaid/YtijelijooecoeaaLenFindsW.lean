/- The law LensFinds at the landed package: its walk. -/
import Derived.Test.YtijelijooecoeaaLenPLens
import Derived.Test.YtijelijooecoeaaLenLaw2
import Derived.Test.YtijelijooecoeaaLenRef
import Derived.OpenShut
namespace Go.Proofs.Ytijelijooecoeaa
open Go.RowKit Go.WideMaps

theorem lensFinds_walk (A : Option Addr) (n c : Nat) (often : List Nat) (limit : Int) (w : World) (hn : n ≤ c) (hc : c ≤ maxLen) (h : U32At w w.heap.size A n often) (hl : (Lit.int .i64 limit).wf = true) :
    Calls Try.prog 3 #[.slice A n c, .int .i64 limit] w fun e w' => e = .returned (.bool true) ∧ Below w.heap.size w w' := by
  obtain ⟨k0, k1⟩ := bounds_i64 hl
  exact lensFinds_walk0 limit A n c often w (lensC_any w) (refLens_any w) (by omega) (by omega) hn hc h
end Go.Proofs.Ytijelijooecoeaa
