/- The laws of chapter 23 at the landed package: the walks of StripeReads, StripeBack, StripeDamage. The laws of chapter 23 at the landed package: the walk of StripeDamage. -/
import Derived.Test.YtkfipfhmbhmamaaDoorB15
import Derived.Test.YtkfipfhmbhmamaaDoorB29
import Derived.Test.YtkfipfhmbhmamaaDoorB30
import Derived.Test.YtkfipfhmbhmamaaDoorB31
import Derived.Test.YtkfipfhmbhmamaaDoorB32
namespace Go.Proofs.YtkfipfhmbhmamaaDoor
open Go.RowKit Go.WideMaps Stp

theorem stripeReads_walk (k m c n : Int) (A : Option Addr) (ns cap : Nat) (s : List UInt8) (w : World) (h1 : (Lit.int .i64 k).wf = true) (h2 : (Lit.int .i64 m).wf = true) (h3 : (Lit.int .i64 c).wf = true) (h4 : (Lit.int .i64 n).wf = true) (hn : ns ≤ cap) (hc : cap ≤ maxLen) (hb : Bytes w w.heap.size A ns s) (ht : Tab w) :
    Calls Tryd.prog 5 #[.int .i64 k, .int .i64 m, .int .i64 c, .int .i64 n, .slice A ns cap] w fun e w' => e = .returned (.bool true) ∧ Below w.heap.size w w' :=
  stripeReads_walk0 k m c n A ns cap s w (layC23_any ht) (readC23_any ht) (isI64_of h1) (isI64_of h2) (isI64_of h3) (isI64_of h4) hn hc hb
theorem stripeBack_walk (t : Nat × Nat × Nat) (A : Option Addr) (n cap : Nat) (b : List UInt8) (w : World) (hs : t.1 < 256 ∧ t.2.1 < 256 ∧ t.2.2 < 256) (hn : n ≤ cap) (hc : cap ≤ maxLen) (hb : Bytes w w.heap.size A n b) (ht : Tab w) :
    Calls Tryd.prog 6 #[.agg #[.int .u8 (t.1 : Int), .int .u8 (t.2.1 : Int), .int .u8 (t.2.2 : Int)], .slice A n cap] w fun e w' => e = .returned (.bool true) ∧ Below w.heap.size w w' :=
  stripeBack_walk0 t.1 t.2.1 t.2.2 A n cap b w (layC23_any ht) (readC23_any ht) hs.1 hs.2.1 hs.2.2 hn hc hb
end Go.Proofs.YtkfipfhmbhmamaaDoor

namespace Go.Proofs.YtkfipfhmbhmamaaDoor
open Go.RowKit Go.WideMaps Stp

theorem stripeDamage_walk (t : Nat × Nat × Nat) (A : Option Addr) (n cap : Nat) (b : List UInt8) (AT : Option Addr) (nt ct : Nat) (L : List (Nat × UInt8)) (w : World) (hs : t.1 < 256 ∧ t.2.1 < 256 ∧ t.2.2 < 256) (hn : n ≤ cap) (hc : cap ≤ maxLen) (hb : Bytes w w.heap.size A n b) (_ : nt ≤ ct) (_ : ct ≤ maxLen) (hT : TurnsAt w w.heap.size AT nt L) (ht : Tab w) :
    Calls Tryd.prog 8 #[.agg #[.int .u8 (t.1 : Int), .int .u8 (t.2.1 : Int), .int .u8 (t.2.2 : Int)], .slice A n cap, .slice AT nt ct] w fun e w' => e = .returned (.bool true) ∧ Below w.heap.size w w' :=
  stripeDamage_walk0 t.1 t.2.1 t.2.2 A n cap b AT nt ct L w (layC23_any ht) (readC23_any ht) hs.1 hs.2.1 hs.2.2 hn hc hb hT
end Go.Proofs.YtkfipfhmbhmamaaDoor

