/- The law MatMay at the landed matrices: its walk, its contracts filled in. -/
import Derived.Test.YtpgdmdcooddgdaaMatMay
import Derived.Test.YtpgdmdcooddgdaaMatOpen
import Derived.Test.YtpgdmdcooddgdaaMatPCauchy
import Derived.Test.YtpgdmdcooddgdaaMatPMay
namespace Go.Proofs.Ytpgdmdcooddgdaa
open Go.RowKit

theorem matMay_walk (m : MV) (A : Option Addr) (k : Nat) (w : World) (h : m.lies w A k) :
    Calls Try.prog 3 #[m.arg A k] w fun e w' => e = .returned (.bool true) ∧ Below w.heap.size w w' := matMay_walk0 m A k w (mpCauchy w) (mpMay w) h
end Go.Proofs.Ytpgdmdcooddgdaa
