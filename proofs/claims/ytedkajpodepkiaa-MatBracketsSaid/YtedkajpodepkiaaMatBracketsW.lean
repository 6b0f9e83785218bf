/- The law MatBrackets at the landed matrices: its walk, its contracts filled in. -/
import Derived.Test.YtedkajpodepkiaaMatBrackets
import Derived.Test.YtedkajpodepkiaaMatOpen
import Derived.Test.YtedkajpodepkiaaMatPCauchy
import Derived.Test.YtedkajpodepkiaaMatPIdentity
import Derived.Test.YtedkajpodepkiaaMatPMul
namespace Go.Proofs.Ytedkajpodepkiaa
open Go.RowKit

theorem matBrackets_walk (a : MV) (A1 : Option Addr) (k1 : Nat) (b : MV) (A2 : Option Addr) (k2 : Nat) (c : MV) (A3 : Option Addr) (k3 : Nat) (w : World) (ha : a.lies w A1 k1) (hb : b.lies w A2 k2) (hc : c.lies w A3 k3) :
    Calls Try.prog 8 #[a.arg A1 k1, b.arg A2 k2, c.arg A3 k3] w fun e w' => e = .returned (.bool true) ∧ Below w.heap.size w w' := matBrackets_walk0 a b c A1 A2 A3 k1 k2 k3 w (fun k m W _ => matCauchy_any k m W) (fun a b A1 A2 k1 k2 W _ h1 h2 => matMul_any a b A1 A2 k1 k2 W h1 h2) (fun n W _ => matIdentity_any n W) ha hb hc
end Go.Proofs.Ytedkajpodepkiaa
