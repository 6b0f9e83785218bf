/- The laws of chapter 23 at the landed package: the walk of StripeMends. -/
import Derived.Test.YtkfipfhmbhmamaaDoorB30
import Derived.Test.YtkfipfhmbhmamaaDoorStpLaw5
import Derived.Test.YtkfipfhmbhmamaaDoorB31
namespace Go.Proofs.YtkfipfhmbhmamaaDoor
open Go.RowKit Go.WideMaps Stp

theorem stripeMends_walk (t : Nat × Nat × Nat) (A : Option Addr) (n cap : Nat) (b : List UInt8) (AT : Option Addr) (nt ct : Nat) (L : List (Nat × UInt8)) (w : World) (hs : t.1 < 256 ∧ t.2.1 < 256 ∧ t.2.2 < 256) (hn : n ≤ cap) (hc : cap ≤ maxLen) (hb : Bytes w w.heap.size A n b) (_ : nt ≤ ct) (_ : ct ≤ maxLen) (hT : TurnsAt w w.heap.size AT nt L) (ht : Tab w) :
    Calls Tryd.prog 7 #[.agg #[.int .u8 (t.1 : Int), .int .u8 (t.2.1 : Int), .int .u8 (t.2.2 : Int)], .slice A n cap, .slice AT nt ct] w fun e w' => e = .returned (.bool true) ∧ Below w.heap.size w w' :=
  stripeMends_walk0 t.1 t.2.1 t.2.2 A n cap b AT nt ct L w (layC23_any ht) (readC23_any ht) hs.1 hs.2.1 hs.2.2 hn hc hb hT
end Go.Proofs.YtkfipfhmbhmamaaDoor
