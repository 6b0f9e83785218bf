/- The law MatCauchy at the landed matrices: its walk, its contracts filled in. -/
import Derived.Test.YtedkajpodepkiaaMatCauLaw
import Derived.Test.YtedkajpodepkiaaMatOpenI
import Derived.Test.YtedkajpodepkiaaMatPCauchy
import Derived.Test.YtedkajpodepkiaaMatPIdentity
import Derived.Test.YtedkajpodepkiaaMatPInverse
import Derived.Test.YtedkajpodepkiaaMatPPick
import Derived.Test.YtedkajpodepkiaaMatPStack
namespace Go.Proofs.Ytedkajpodepkiaa
open Go.RowKit

theorem matCauchy_walk (k m : Int) (A : Option Addr) (n kc : Nat) (L : List Int) (w : World) (hk : (Lit.int .u8 k).wf = true) (hm : (Lit.int .u8 m).wf = true) (hn : n ≤ kc) (_hc : kc ≤ maxLen) (hb : IntsAt w w.heap.size A n L) :
    Calls Try.prog 13 #[.int .u8 k, .int .u8 m, .slice A n kc] w fun e w' => e = .returned (.bool true) ∧ Below w.heap.size w w' := by
  have h := hb.1
  subst h
  exact matCauchy_walk0 k m A kc L w (fun k m W _ => matCauchy_any k m W) (fun n W _ => matIdentity_any n W) (fun L A k W _ h1 h2 _ => matStack_any L A k W h1 h2) (fun m L A1 A2 k1 k2 W _ h1 h2 h3 _ => matPick_any m L A1 A2 k1 k2 W h1 h2 h3) (fun m A k W _ h => matInverse_any m A k W h) hk hm hb hn
end Go.Proofs.Ytedkajpodepkiaa
