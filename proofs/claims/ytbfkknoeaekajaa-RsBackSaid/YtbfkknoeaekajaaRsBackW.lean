/- The law RsBack at the landed package: its walk. -/
import Derived.Test.YtbfkknoeaekajaaRsPRight
import Derived.Test.YtbfkknoeaekajaaRsBack
namespace Go.Proofs.Ytbfkknoeaekajaa
open Go.RowKit

theorem rsBack_walk (m : Int) (A1 : Option Addr) (n1 c1 : Nat) (data : List (List UInt8)) (A2 : Option Addr) (n2 c2 : Nat) (sp : List UInt8) (A3 : Option Addr) (n3 c3 : Nat) (byl : List UInt8) (w : World) (hm : (Lit.int .u8 m).wf = true)
    (hn1 : n1 ≤ c1) (_hc1 : c1 ≤ maxLen) (h1 : RowsAt w w.heap.size A1 n1 data) (_hn2 : n2 ≤ c2) (_hc2 : c2 ≤ maxLen) (h2 : Bytes w w.heap.size A2 n2 sp) (hn3 : n3 ≤ c3) (hc3 : c3 ≤ maxLen) (h3 : Bytes w w.heap.size A3 n3 byl) :
    Calls Try.prog 5 #[.int .u8 m, .slice A1 n1 c1, .slice A2 n2 c2, .slice A3 n3 c3] w fun e w' => e = .returned (.bool true) ∧ Below w.heap.size w w' := by
  have hl := h1.1
  subst hl
  have hl := h2.1
  subst hl
  have hl := h3.1
  subst hl
  obtain ⟨m0, m1⟩ := bounds_u8 hm
  exact rsBack_walk0 m A1 A2 A3 c1 c2 c3 data sp byl w (mendC_any w) (parityC_any w) (rightC_any w) (by omega) (by omega) h1 hn1 h2 h3 hn3 hc3
end Go.Proofs.Ytbfkknoeaekajaa
