/- The law MatInverts at the landed matrices: its walk, its contracts filled in. -/
import Derived.Test.YtedkajpodepkiaaMatInverts
import Derived.Test.YtedkajpodepkiaaMatInvR
import Derived.Test.YtedkajpodepkiaaMatOpen
import Derived.Test.YtedkajpodepkiaaMatPCauchy
import Derived.Test.YtedkajpodepkiaaMatPIdentity
import Derived.Test.YtedkajpodepkiaaMatPInverse
import Derived.Test.YtedkajpodepkiaaMatPMul
namespace Go.Proofs.Ytedkajpodepkiaa
open Go.RowKit

theorem matInverts_walk (a : MV) (A1 : Option Addr) (k1 : Nat) (w : World) (ha : a.lies w A1 k1) :
    Calls Try.prog 9 #[a.arg A1 k1] w fun e w' => e = .returned (.bool true) ∧ Below w.heap.size w w' := matInverts_walk0 a A1 k1 w (fun k m W _ => matCauchy_any k m W) (fun a b A1 A2 k1 k2 W _ h1 h2 => matMul_any a b A1 A2 k1 k2 W h1 h2) (fun m A k W _ h => matInverse_any m A k W h) (fun n W _ => matIdentity_any n W) refInverse_any ha
end Go.Proofs.Ytedkajpodepkiaa
