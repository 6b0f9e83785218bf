/- The law RsXor at the landed package: its walk. -/
import Derived.Test.YtbfkknoeaekajaaRsPRight
import Derived.Test.YtbfkknoeaekajaaRsXor
namespace Go.Proofs.Ytbfkknoeaekajaa
open Go.RowKit

theorem rsXor_walk (m : Int) (A1 : Option Addr) (n1 c1 : Nat) (a : List (List UInt8)) (A2 : Option Addr) (n2 c2 : Nat) (b : List (List UInt8)) (w : World) (hm : (Lit.int .u8 m).wf = true) (hn1 : n1 ≤ c1) (hc1 : c1 ≤ maxLen) (h1 : RowsAt w w.heap.size A1 n1 a) (hn2 : n2 ≤ c2) (hc2 : c2 ≤ maxLen) (h2 : RowsAt w w.heap.size A2 n2 b) :
    Calls Try.prog 8 #[.int .u8 m, .slice A1 n1 c1, .slice A2 n2 c2] w fun e w' => e = .returned (.bool true) ∧ Below w.heap.size w w' := by
  have hl := h1.1
  subst hl
  have hl := h2.1
  subst hl
  obtain ⟨m0, m1⟩ := bounds_u8 hm
  unfold maxLen at hc1 hc2
  exact rsXor_walk0 m A1 A2 c1 c2 a b w (mendC_any w) (parityC_any w) (by omega) (by omega) h1 hn1 h2 hn2 (by omega) (by omega)
end Go.Proofs.Ytbfkknoeaekajaa
