/- The law MatTurns at the landed matrices: its walk, its contracts filled in. -/
import Derived.Test.YtedkajpodepkiaaMatTurns
import Derived.Test.YtedkajpodepkiaaMatOpen
import Derived.Test.YtedkajpodepkiaaMatPCauchy
import Derived.Test.YtedkajpodepkiaaMatPInverse
import Derived.Test.YtedkajpodepkiaaMatPMul
namespace Go.Proofs.Ytedkajpodepkiaa
open Go.RowKit

theorem matTurns_walk (a : MV) (A1 : Option Addr) (k1 : Nat) (b : MV) (A2 : Option Addr) (k2 : Nat) (w : World) (ha : a.lies w A1 k1) (hb : b.lies w A2 k2) :
    Calls Try.prog 12 #[a.arg A1 k1, b.arg A2 k2] w fun e w' => e = .returned (.bool true) ∧ Below w.heap.size w w' := matTurns_walk0 a b A1 A2 k1 k2 w (fun k m W _ => matCauchy_any k m W) (fun a b A1 A2 k1 k2 W _ h1 h2 => matMul_any a b A1 A2 k1 k2 W h1 h2) (fun m A k W _ h => matInverse_any m A k W h) ha hb
end Go.Proofs.Ytedkajpodepkiaa
