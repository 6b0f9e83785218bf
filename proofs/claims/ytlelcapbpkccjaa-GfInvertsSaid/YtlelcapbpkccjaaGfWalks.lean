/- The laws of chapter 4 at the landed field: each walk, its contracts filled in. -/
import Derived.Test.YtlelcapbpkccjaaGfSum
import Derived.Test.YtlelcapbpkccjaaGfPow
import Derived.Test.YtlelcapbpkccjaaGfMuls
import Derived.Test.YtlelcapbpkccjaaGfPowers
namespace Go.Proofs.Ytlelcapbpkccjaa
open Go.RowKit

theorem mulC (w : World) : MulC w := fun a b W ha hb _ => mul_any a b W ha hb
theorem invC (w : World) : InvC w := fun a W ha _ => inv_any a W ha
theorem divC (w : World) : DivC w := fun a b W ha hb _ => div_any a b W ha hb
theorem logC (w : World) : LogC w := fun a W ha _ => log_any a W ha
theorem powC (w : World) : PowC w := fun a n W ha hn _ => pow_any a n W ha hn
theorem rowC (w : World) : RowC w := fun c W hc _ => row_any c W hc
theorem addC (w : World) : AddC w := fun A1 A2 c1 c2 c to b W hc _ _ hl _ _ h1 h2 => add_any A1 A2 c1 c2 c to b W hc hl h1 h2
theorem dotC (w : World) : DotC w := fun A1 A2 c1 c2 a b W _ _ hl _ _ h1 h2 => dot_any A1 A2 c1 c2 a b W hl h1 h2
theorem gfMuls_walk (a b : Int) (w : World) (ha : (Lit.int .u8 a).wf = true) (hb : (Lit.int .u8 b).wf = true) :
    Calls Try.prog 3 #[.int .u8 a, .int .u8 b] w fun e w' => e = .returned (.bool true) ∧ Below w.heap.size w w' := gfMuls_walk0 a b w (mulC w) ha hb
theorem gfField_walk (a b c : Int) (w : World) (ha : (Lit.int .u8 a).wf = true) (hb : (Lit.int .u8 b).wf = true) (hc : (Lit.int .u8 c).wf = true) :
    Calls Try.prog 4 #[.int .u8 a, .int .u8 b, .int .u8 c] w fun e w' => e = .returned (.bool true) ∧ Below w.heap.size w w' := gfField_walk0 a b c w (mulC w) ha hb hc
theorem gfInverts_walk (a b : Int) (w : World) (ha : (Lit.int .u8 a).wf = true) (hb : (Lit.int .u8 b).wf = true) :
    Calls Try.prog 5 #[.int .u8 a, .int .u8 b] w fun e w' => e = .returned (.bool true) ∧ Below w.heap.size w w' := gfInverts_walk0 a b w (mulC w) (invC w) (divC w) (logC w) ha hb
theorem gfBack_walk (a b : Int) (w : World) (ha : (Lit.int .u8 a).wf = true) (hb : (Lit.int .u8 b).wf = true) :
    Calls Try.prog 6 #[.int .u8 a, .int .u8 b] w fun e w' => e = .returned (.bool true) ∧ Below w.heap.size w w' := gfBack_walk0 a b w (mulC w) (divC w) (logC w) (powC w) ha hb
theorem gfPowers_walk (a n m l : Int) (w : World) (ha : (Lit.int .u8 a).wf = true) (hn : (Lit.int .u16 n).wf = true) (hm : (Lit.int .u64 m).wf = true) (hl : (Lit.int .u64 l).wf = true) :
    Calls Try.prog 7 #[.int .u8 a, .int .u16 n, .int .u64 m, .int .u64 l] w fun e w' => e = .returned (.bool true) ∧ Below w.heap.size w w' := gfPowers_walk0 a n m l w (mulC w) (powC w) ha hn hm hl
theorem gfOrder_walk (n m : Int) (w : World) (hn : (Lit.int .u8 n).wf = true) (hm : (Lit.int .u8 m).wf = true) :
    Calls Try.prog 8 #[.int .u8 n, .int .u8 m] w fun e w' => e = .returned (.bool true) ∧ Below w.heap.size w w' := gfOrder_walk0 n m w (mulC w) (powC w) hn hm
theorem gfRows_walk (c i : Int) (w : World) (hc : (Lit.int .u8 c).wf = true) (hi : (Lit.int .u8 i).wf = true) :
    Calls Try.prog 9 #[.int .u8 c, .int .u8 i] w fun e w' => e = .returned (.bool true) ∧ Below w.heap.size w w' := gfRows_walk0 c i w (mulC w) (rowC w) hc hi
theorem gfAdds_walk (A1 : Option Addr) (n1 c1 : Nat) (l1 : List UInt8) (c : Int) (A2 : Option Addr) (n2 c2 : Nat) (l2 : List UInt8) (w : World)
    (hn1 : n1 ≤ c1) (hc1 : c1 ≤ maxLen) (hb1 : Bytes w w.heap.size A1 n1 l1) (hc : (Lit.int .u8 c).wf = true) (hn2 : n2 ≤ c2) (hc2 : c2 ≤ maxLen) (hb2 : Bytes w w.heap.size A2 n2 l2) :
    Calls Try.prog 10 #[.slice A1 n1 c1, .int .u8 c, .slice A2 n2 c2] w fun e w' => e = .returned (.bool true) ∧ Below w.heap.size w w' :=
  gfAdds_walk0 A1 n1 c1 l1 c A2 n2 c2 l2 w (mulC w) (addC w) (dotC w) hn1 hc1 hb1 hc hn2 hc2 hb2
theorem gfTwice_walk (A1 : Option Addr) (n1 c1 : Nat) (l1 : List UInt8) (c d : Int) (A2 : Option Addr) (n2 c2 : Nat) (l2 : List UInt8) (w : World)
    (hn1 : n1 ≤ c1) (hc1 : c1 ≤ maxLen) (hb1 : Bytes w w.heap.size A1 n1 l1) (hc : (Lit.int .u8 c).wf = true) (hd : (Lit.int .u8 d).wf = true) (hn2 : n2 ≤ c2) (hc2 : c2 ≤ maxLen) (hb2 : Bytes w w.heap.size A2 n2 l2) :
    Calls Try.prog 11 #[.slice A1 n1 c1, .int .u8 c, .int .u8 d, .slice A2 n2 c2] w fun e w' => e = .returned (.bool true) ∧ Below w.heap.size w w' :=
  gfTwice_walk0 A1 n1 c1 l1 c d A2 n2 c2 l2 w (mulC w) (addC w) hn1 hc1 hb1 hc hd hn2 hc2 hb2
end Go.Proofs.Ytlelcapbpkccjaa
