/- The law MatStacks at the landed matrices: its walk, its contracts filled in. -/
import Derived.Test.YtedkajpodepkiaaMatStacks
import Derived.Test.YtedkajpodepkiaaMatOpenS
import Derived.Test.YtedkajpodepkiaaMatPCauchy
import Derived.Test.YtedkajpodepkiaaMatPStack
namespace Go.Proofs.Ytedkajpodepkiaa
open Go.RowKit

theorem matStacks_walk (A : Option Addr) (n k : Nat) (L : List MIn) (w : World) (hn : n ≤ k) (_hc : k ≤ maxLen) (hb : MatsAt w w.heap.size A n L) :
    Calls Try.prog 5 #[.slice A n k] w fun e w' => e = .returned (.bool true) ∧ Below w.heap.size w w' := by
  have h := hb.1
  subst h
  exact matStacks_walk0 L A k w (fun k m W _ => matCauchy_any k m W) (fun L A k W _ h1 h2 _ => matStack_any L A k W h1 h2) hb hn
end Go.Proofs.Ytedkajpodepkiaa
