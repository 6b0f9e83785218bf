/- The law MatFlat at the landed matrices: its walk, its contracts filled in. -/
import Derived.Test.YtedkajpodepkiaaMatFlat
import Derived.Test.YtedkajpodepkiaaMatOpen
import Derived.Test.YtedkajpodepkiaaMatPCauchy
import Derived.Test.YtedkajpodepkiaaMatPInverse
import Derived.Test.YtedkajpodepkiaaMatPMul
namespace Go.Proofs.Ytedkajpodepkiaa
open Go.RowKit

theorem matFlat_walk (a : MV) (A1 : Option Addr) (k1 : Nat) (A2 : Option Addr) (n2 k2 : Nat) (l : List UInt8) (w : World) (ha : a.lies w A1 k1) (hn : n2 ≤ k2) (hc : k2 ≤ maxLen) (hb : Bytes w w.heap.size A2 n2 l) :
    Calls Try.prog 11 #[a.arg A1 k1, .slice A2 n2 k2] w fun e w' => e = .returned (.bool true) ∧ Below w.heap.size w w' := by
  have h := hb.1
  subst h
  exact matFlat_walk0 a A1 k1 A2 k2 l w (fun k m W _ => matCauchy_any k m W) (fun a b A1 A2 k1 k2 W _ h1 h2 => matMul_any a b A1 A2 k1 k2 W h1 h2) (fun m A k W _ h => matInverse_any m A k W h) ha hb (Nat.le_trans hn hc) hn
end Go.Proofs.Ytedkajpodepkiaa
