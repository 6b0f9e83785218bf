/- The laws of chapter 14 at the landed package: their walks. -/
import Derived.Test.YtfkmcknkapplmaaSetC
import Derived.Test.YtfkmcknkapplmaaSetLaw4
import Derived.OpenShut
namespace Go.Proofs.Ytfkmcknkapplmaa
open Go.RowKit Go.WideMaps Sets

theorem setsMay_walk (A : Option Addr) (n c : Nat) (l : List Int) (x : Int) (w : World) (hn : n ≤ c) (hc : c ≤ maxLen) (h : IntsAt w w.heap.size A n l) (hx : (Lit.int .i64 x).wf = true) : Calls Try.prog 3 #[.slice A n c, .int .i64 x] w fun e w' => e = .returned (.bool true) ∧ Below w.heap.size w w' :=
  setsMay_walk0 A n c l x w (sBothC_any w) (sMayC_any w) (sNextC_any w) (bounds_i64 hx) hn hc h
theorem setsBoth_walk (A : Option Addr) (n c : Nat) (ls : List (List Int)) (w : World) (hn : n ≤ c) (hc : c ≤ maxLen) (h : ILists w w.heap.size A n ls) : Calls Try.prog 4 #[.slice A n c] w fun e w' => e = .returned (.bool true) ∧ Below w.heap.size w w' :=
  setsBoth_walk0 A n c ls w (sBothC_any w) hn hc h
theorem setsAny_walk (A : Option Addr) (n c : Nat) (ls : List (List Int)) (w : World) (hn : n ≤ c) (hc : c ≤ maxLen) (h : ILists w w.heap.size A n ls) : Calls Try.prog 5 #[.slice A n c] w fun e w' => e = .returned (.bool true) ∧ Below w.heap.size w w' :=
  setsAny_walk0 A n c ls w (sBothC_any w) (sAnyC_any w) hn hc h
theorem setsLess_walk (A1 : Option Addr) (n1 c1 : Nat) (a : List Int) (A : Option Addr) (n c : Nat) (ls : List (List Int)) (w : World) (hn1 : n1 ≤ c1) (hc1 : c1 ≤ maxLen) (h1 : IntsAt w w.heap.size A1 n1 a) (hn : n ≤ c) (hc : c ≤ maxLen) (h : ILists w w.heap.size A n ls) : Calls Try.prog 6 #[.slice A1 n1 c1, .slice A n c] w fun e w' => e = .returned (.bool true) ∧ Below w.heap.size w w' :=
  setsLess_walk0 A1 n1 c1 a A n c ls w (sBothC_any w) (sLessC_any w) hn1 hc1 h1 hn hc h
theorem setsRest_walk (bound : Int) (A : Option Addr) (n c : Nat) (l : List Int) (w : World) (hb : (Lit.int .i64 bound).wf = true) (hn : n ≤ c) (hc : c ≤ maxLen) (h : IntsAt w w.heap.size A n l) : Calls Try.prog 7 #[.int .i64 bound, .slice A n c] w fun e w' => e = .returned (.bool true) ∧ Below w.heap.size w w' :=
  setsRest_walk0 bound A n c l w (sBothC_any w) (sRestC_any w) (bounds_i64 hb) hn hc h
theorem setsHas_walk (A1 : Option Addr) (n1 c1 : Nat) (a : List Int) (A2 : Option Addr) (n2 c2 : Nat) (b : List Int) (x : Int) (w : World) (hn1 : n1 ≤ c1) (hc1 : c1 ≤ maxLen) (h1 : IntsAt w w.heap.size A1 n1 a) (hn2 : n2 ≤ c2) (hc2 : c2 ≤ maxLen) (h2 : IntsAt w w.heap.size A2 n2 b) (_ : (Lit.int .i64 x).wf = true) : Calls Try.prog 8 #[.slice A1 n1 c1, .slice A2 n2 c2, .int .i64 x] w fun e w' => e = .returned (.bool true) ∧ Below w.heap.size w w' :=
  setsHas_walk0 A1 n1 c1 a A2 n2 c2 b x w (sBothC_any w) (sAnyC_any w) (sLessC_any w) (sMayC_any w) hn1 hc1 h1 hn2 hc2 h2
theorem setsTurns_walk (bound : Int) (A1 : Option Addr) (n1 c1 : Nat) (a : List Int) (A2 : Option Addr) (n2 c2 : Nat) (b : List Int) (w : World) (hb : (Lit.int .i64 bound).wf = true) (hn1 : n1 ≤ c1) (hc1 : c1 ≤ maxLen) (h1 : IntsAt w w.heap.size A1 n1 a) (hn2 : n2 ≤ c2) (hc2 : c2 ≤ maxLen) (h2 : IntsAt w w.heap.size A2 n2 b) : Calls Try.prog 9 #[.int .i64 bound, .slice A1 n1 c1, .slice A2 n2 c2] w fun e w' => e = .returned (.bool true) ∧ Below w.heap.size w w' :=
  setsTurns_walk0 bound A1 n1 c1 a A2 n2 c2 b w (sBothC_any w) (sAnyC_any w) (sLessC_any w) (sRestC_any w) (bounds_i64 hb) hn1 hc1 h1 hn2 hc2 h2
end Go.Proofs.Ytfkmcknkapplmaa
