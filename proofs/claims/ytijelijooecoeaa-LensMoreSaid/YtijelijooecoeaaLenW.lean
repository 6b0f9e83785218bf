/- The laws LensWeighs, LensFull, LensRare, LensBest, LensMore at the landed package: their walks. -/
import Derived.Test.YtijelijooecoeaaLenPLens
import Derived.Test.YtijelijooecoeaaLenLaw2
import Derived.Test.YtijelijooecoeaaLenFull
import Derived.Test.YtijelijooecoeaaLenRare
import Derived.Test.YtijelijooecoeaaLenLeast
import Derived.OpenShut
namespace Go.Proofs.Ytijelijooecoeaa
open Go.RowKit Go.WideMaps

theorem lensWeighs_walk (A1 : Option Addr) (n1 c1 : Nat) (often : List Nat) (A2 : Option Addr) (n2 c2 : Nat) (l : List UInt8) (w : World) (hn1 : n1 ≤ c1) (hc1 : c1 ≤ maxLen) (h1 : U32At w w.heap.size A1 n1 often) (hn2 : n2 ≤ c2) (hc2 : c2 ≤ maxLen) (h2 : Bytes w w.heap.size A2 n2 l) :
    Calls Try.prog 4 #[.slice A1 n1 c1, .slice A2 n2 c2] w fun e w' => e = .returned (.bool true) ∧ Below w.heap.size w w' :=
  lensWeighs_walk0 A1 A2 n1 c1 n2 c2 often l w (lensC_any w) (kraftC_any w) (costC_any w) hn1 hc1 hn2 hc2 h1 h2
theorem lensFull_walk (A : Option Addr) (n c : Nat) (often : List Nat) (limit : Int) (w : World) (hn : n ≤ c) (hc : c ≤ maxLen) (h : U32At w w.heap.size A n often) (hl : (Lit.int .i64 limit).wf = true) :
    Calls Try.prog 5 #[.slice A n c, .int .i64 limit] w fun e w' => e = .returned (.bool true) ∧ Below w.heap.size w w' := by
  obtain ⟨k0, k1⟩ := bounds_i64 hl
  exact lensFull_walk0 limit A n c often w (lensC_any w) (kraftC_any w) (by omega) (by omega) hn hc h
theorem lensRare_walk (A : Option Addr) (n c : Nat) (often : List Nat) (limit i k : Int) (w : World) (hn : n ≤ c) (hc : c ≤ maxLen) (h : U32At w w.heap.size A n often) (hl : (Lit.int .i64 limit).wf = true) (hi : (Lit.int .u8 i).wf = true) (hk : (Lit.int .u8 k).wf = true) :
    Calls Try.prog 6 #[.slice A n c, .int .i64 limit, .int .u8 i, .int .u8 k] w fun e w' => e = .returned (.bool true) ∧ Below w.heap.size w w' := by
  obtain ⟨k0, k1⟩ := bounds_i64 hl
  obtain ⟨i0, i1⟩ := bounds_u8 hi
  obtain ⟨j0, j1⟩ := bounds_u8 hk
  exact lensRare_walk0 limit i k A n c often w (lensC_any w) (by omega) (by omega) (by omega) (by omega) (by omega) (by omega) hn hc h
theorem lensBest_walk (A1 : Option Addr) (n1 c1 : Nat) (often : List Nat) (limit : Int) (A2 : Option Addr) (n2 c2 : Nat) (other : List UInt8) (w : World) (hn1 : n1 ≤ c1) (hc1 : c1 ≤ maxLen) (h1 : U32At w w.heap.size A1 n1 often) (hl : (Lit.int .i64 limit).wf = true) (hn2 : n2 ≤ c2) (hc2 : c2 ≤ maxLen) (h2 : Bytes w w.heap.size A2 n2 other) :
    Calls Try.prog 7 #[.slice A1 n1 c1, .int .i64 limit, .slice A2 n2 c2] w fun e w' => e = .returned (.bool true) ∧ Below w.heap.size w w' := by
  obtain ⟨k0, k1⟩ := bounds_i64 hl
  exact lensBest_walk0 limit A1 A2 n1 c1 n2 c2 often other w (lensC_any w) (costC_any w) (by omega) (by omega) hn1 hc1 hn2 hc2 h1 h2
theorem lensMore_walk (A : Option Addr) (n c : Nat) (often : List Nat) (limit : Int) (w : World) (hn : n ≤ c) (hc : c ≤ maxLen) (h : U32At w w.heap.size A n often) (hl : (Lit.int .u8 limit).wf = true) :
    Calls Try.prog 8 #[.slice A n c, .int .u8 limit] w fun e w' => e = .returned (.bool true) ∧ Below w.heap.size w w' := by
  obtain ⟨k0, k1⟩ := bounds_u8 hl
  exact lensMore_walk0 limit A n c often w (lensC_any w) (costC_any w) (by omega) (by omega) hn hc h
end Go.Proofs.Ytijelijooecoeaa
