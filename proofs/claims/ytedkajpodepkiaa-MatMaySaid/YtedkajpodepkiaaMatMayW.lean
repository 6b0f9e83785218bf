/- The law MatMay at the landed matrices: its walk, its contracts filled in. -/
import Derived.Test.YtedkajpodepkiaaMatMay
import Derived.Test.YtedkajpodepkiaaMatOpen
import Derived.Test.YtedkajpodepkiaaMatPCauchy
import Derived.Test.YtedkajpodepkiaaMatPBase
namespace Go.Proofs.Ytedkajpodepkiaa
open Go.RowKit

theorem matMay_walk (m : MV) (A : Option Addr) (k : Nat) (w : World) (h : m.lies w A k) :
    Calls Try.prog 3 #[m.arg A k] w fun e w' => e = .returned (.bool true) ∧ Below w.heap.size w w' := matMay_walk0 m A k w (fun k m W _ => matCauchy_any k m W) (fun m A k W _ h => matMay_any m A k W h.2.1) h
end Go.Proofs.Ytedkajpodepkiaa
