/- The law MatPicks at the landed matrices: its walk, its contracts filled in. -/
import Derived.Test.YtedkajpodepkiaaMatPicks
import Derived.Test.YtedkajpodepkiaaMatOpen
import Derived.Test.YtedkajpodepkiaaMatOpenI
import Derived.Test.YtedkajpodepkiaaMatPCauchy
import Derived.Test.YtedkajpodepkiaaMatPPick
namespace Go.Proofs.Ytedkajpodepkiaa
open Go.RowKit

theorem matPicks_walk (a : MV) (A1 : Option Addr) (k1 : Nat) (A2 : Option Addr) (n2 k2 : Nat) (L : List Int) (w : World) (ha : a.lies w A1 k1) (hn : n2 ≤ k2) (_hc : k2 ≤ maxLen) (hb : IntsAt w w.heap.size A2 n2 L) :
    Calls Try.prog 6 #[a.arg A1 k1, .slice A2 n2 k2] w fun e w' => e = .returned (.bool true) ∧ Below w.heap.size w w' := by
  have h := hb.1
  subst h
  exact matPicks_walk0 a L A1 A2 k1 k2 w (fun k m W _ => matCauchy_any k m W) (fun m L A1 A2 k1 k2 W _ h1 h2 h3 _ => matPick_any m L A1 A2 k1 k2 W h1 h2 h3) ha hb hn
end Go.Proofs.Ytedkajpodepkiaa
