/- The law RsFew at the landed package: its walk. -/
import Derived.Test.YtbfkknoeaekajaaRsPRight
import Derived.Test.YtbfkknoeaekajaaRsFew
namespace Go.Proofs.Ytbfkknoeaekajaa
open Go.RowKit

theorem rsFew_walk (k m : Int) (A1 : Option Addr) (n1 c1 : Nat) (parts : List (List UInt8)) (A2 : Option Addr) (n2 c2 : Nat) (good : List Bool) (w : World) (hk : (Lit.int .u8 k).wf = true) (hm : (Lit.int .u8 m).wf = true) (hn1 : n1 ≤ c1) (_hc1 : c1 ≤ maxLen) (h1 : RowsAt w w.heap.size A1 n1 parts) (hn2 : n2 ≤ c2) (_hc2 : c2 ≤ maxLen) (h2 : BoolsAt w w.heap.size A2 n2 good) :
    Calls Try.prog 6 #[.int .u8 k, .int .u8 m, .slice A1 n1 c1, .slice A2 n2 c2] w fun e w' => e = .returned (.bool true) ∧ Below w.heap.size w w' := by
  have hl := h1.1
  subst hl
  have hl := h2.1
  subst hl
  obtain ⟨k0, k1⟩ := bounds_u8 hk
  obtain ⟨m0, m1⟩ := bounds_u8 hm
  exact rsFew_walk0 k m A1 A2 c1 c2 parts good w (mendC_any w) (rightC_any w) (by omega) (by omega) (by omega) (by omega) h1 hn1 h2 hn2
end Go.Proofs.Ytbfkknoeaekajaa
