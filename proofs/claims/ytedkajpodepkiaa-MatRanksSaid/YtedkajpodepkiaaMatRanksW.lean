/- The law MatRanks at the landed matrices: its walk, its contracts filled in. -/
import Derived.Test.YtedkajpodepkiaaMatRanks
import Derived.Test.YtedkajpodepkiaaMatOpen
import Derived.Test.YtedkajpodepkiaaMatPCauchy
import Derived.Test.YtedkajpodepkiaaMatPInverse
import Derived.Test.YtedkajpodepkiaaMatPRank
namespace Go.Proofs.Ytedkajpodepkiaa
open Go.RowKit

theorem matRanks_walk (a : MV) (A1 : Option Addr) (k1 : Nat) (w : World) (ha : a.lies w A1 k1) :
    Calls Try.prog 10 #[a.arg A1 k1] w fun e w' => e = .returned (.bool true) ∧ Below w.heap.size w w' := matRanks_walk0 a A1 k1 w (fun k m W _ => matCauchy_any k m W) (fun m A k W _ h => matInverse_any m A k W h) (fun m A k W _ h => matRank_any m A k W h) ha
end Go.Proofs.Ytedkajpodepkiaa
