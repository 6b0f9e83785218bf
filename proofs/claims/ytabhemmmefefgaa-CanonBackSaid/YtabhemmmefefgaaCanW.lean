/- The laws of chapter 8 at the landed package: their walks. CanC holds what the program's functions tell. -/
import Derived.Test.YtabhemmmefefgaaCanPCodes
import Derived.Test.YtabhemmmefefgaaCanPWrite
import Derived.Test.YtabhemmmefefgaaCanPTake
import Derived.Test.YtabhemmmefefgaaCanApart
import Derived.Test.YtabhemmmefefgaaCanBack
import Derived.OpenShut
namespace Go.Proofs.Ytabhemmmefefgaa
open Go.RowKit Go.WideMaps

theorem canonChecks_walk (A : Option Addr) (n c : Nat) (l : List UInt8) (w : World) (hn : n ≤ c) (hc : c ≤ maxLen) (hb : Bytes w w.heap.size A n l) :
    Calls Try.prog 3 #[.slice A n c] w fun e w' => e = .returned (.bool true) ∧ Below w.heap.size w w' := canonChecks_walk0 A n c l w (checkC_any w) (codesC_any w) hn hc hb
theorem canonCodes_walk (A : Option Addr) (n c : Nat) (l : List UInt8) (w : World) (hn : n ≤ c) (hc : c ≤ maxLen) (hb : Bytes w w.heap.size A n l) :
    Calls Try.prog 4 #[.slice A n c] w fun e w' => e = .returned (.bool true) ∧ Below w.heap.size w w' := canonCodes_walk0 A n c l w (codesC_any w) hn hc hb
theorem canonApart_walk (A : Option Addr) (n c : Nat) (l : List UInt8) (i k : Int) (w : World) (hn : n ≤ c) (hc : c ≤ maxLen) (hb : Bytes w w.heap.size A n l) (hi : (Lit.int .u16 i).wf = true) (hk : (Lit.int .u16 k).wf = true) :
    Calls Try.prog 5 #[.slice A n c, .int .u16 i, .int .u16 k] w fun e w' => e = .returned (.bool true) ∧ Below w.heap.size w w' := by
  obtain ⟨i0, i1⟩ := bounds_u16 hi
  obtain ⟨k0, k1⟩ := bounds_u16 hk
  exact canonApart_walk0 i k A n c l w (codesC_any w) hn hc (by omega) (by omega) (by omega) (by omega) hb
theorem canonOrder_walk (A : Option Addr) (n c : Nat) (l : List UInt8) (i k : Int) (w : World) (hn : n ≤ c) (hc : c ≤ maxLen) (hb : Bytes w w.heap.size A n l) (hi : (Lit.int .u16 i).wf = true) (hk : (Lit.int .u16 k).wf = true) :
    Calls Try.prog 6 #[.slice A n c, .int .u16 i, .int .u16 k] w fun e w' => e = .returned (.bool true) ∧ Below w.heap.size w w' := by
  obtain ⟨i0, i1⟩ := bounds_u16 hi
  obtain ⟨k0, k1⟩ := bounds_u16 hk
  exact canonOrder_walk0 i k A n c l w (codesC_any w) hn hc (by omega) (by omega) (by omega) (by omega) hb
theorem canonWrites_walk (x : Int) (A : Option Addr) (n c : Nat) (l : List UInt8) (w : World) (hx : (Lit.int .u8 x).wf = true) (hn : n ≤ c) (hc : c ≤ maxLen) (hb : Bytes w w.heap.size A n l) :
    Calls Try.prog 7 #[.int .u8 x, .slice A n c] w fun e w' => e = .returned (.bool true) ∧ Below w.heap.size w w' := by
  obtain ⟨x0, x1⟩ := bounds_u8 hx
  exact canonWrites_walk0 x A n c l w (codesC_any w) (writeC_any w) (writeNilC_any w) (by omega) (by omega) hn hc hb
theorem canonReads_walk (A : Option Addr) (n c : Nat) (l : List UInt8) (x : Int) (w : World) (hn : n ≤ c) (hc : c ≤ maxLen) (hb : Bytes w w.heap.size A n l) (hx : (Lit.int .i64 x).wf = true) :
    Calls Try.prog 8 #[.slice A n c, .int .i64 x] w fun e w' => e = .returned (.bool true) ∧ Below w.heap.size w w' := by
  obtain ⟨x0, x1⟩ := bounds_i64 hx
  exact canonReads_walk0 x A n c l w (codesC_any w) (readC_any w) hn hc hb (by omega) (by omega)
theorem canonBack_walk (A : Option Addr) (n c : Nat) (l : List UInt8) (w : World) (hn : n ≤ c) (hc : c ≤ maxLen) (hb : Bytes w w.heap.size A n l) :
    Calls Try.prog 9 #[.slice A n c] w fun e w' => e = .returned (.bool true) ∧ Below w.heap.size w w' := canonBack_walk0 A n c l w (codesC_any w) (writeC_any w) (readC_any w) hn hc hb
end Go.Proofs.Ytabhemmmefefgaa
