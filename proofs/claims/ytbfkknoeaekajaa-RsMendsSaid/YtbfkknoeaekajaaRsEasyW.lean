/- The laws RsParity, RsMends, RsRight at the landed package: their walks. -/
import Derived.Test.YtbfkknoeaekajaaRsPRight
namespace Go.Proofs.Ytbfkknoeaekajaa
open Go.RowKit

theorem rsParity_walk (m : Int) (A : Option Addr) (n c : Nat) (data : List (List UInt8)) (w : World) (_hm : (Lit.int .i64 m).wf = true) (hn : n ≤ c) (_hc : c ≤ maxLen) (h : RowsAt w w.heap.size A n data) :
    Calls Try.prog 3 #[.int .i64 m, .slice A n c] w fun e w' => e = .returned (.bool true) ∧ Below w.heap.size w w' := by
  have hl := h.1
  subst hl
  exact rsParity_walk0 m A c data w (mendC_any w) (parityC_any w) h hn
theorem rsRight_walk (k m : Int) (A : Option Addr) (n c : Nat) (parts : List (List UInt8)) (w : World) (hk : (Lit.int .i64 k).wf = true) (_hm : (Lit.int .i64 m).wf = true) (hn : n ≤ c) (_hc : c ≤ maxLen) (h : RowsAt w w.heap.size A n parts) :
    Calls Try.prog 7 #[.int .i64 k, .int .i64 m, .slice A n c] w fun e w' => e = .returned (.bool true) ∧ Below w.heap.size w w' := by
  have hl := h.1
  subst hl
  obtain ⟨k0, k1⟩ := bounds_i64 hk
  exact rsRight_walk0 k m A c parts w (mendC_any w) (rightC_any w) (by omega) (by omega) h hn
theorem rsMends_walk (k m : Int) (A1 : Option Addr) (n1 c1 : Nat) (parts : List (List UInt8)) (A2 : Option Addr) (n2 c2 : Nat) (good : List Bool) (w : World) (hk : (Lit.int .i64 k).wf = true) (_hm : (Lit.int .i64 m).wf = true) (hn1 : n1 ≤ c1) (_hc1 : c1 ≤ maxLen) (h1 : RowsAt w w.heap.size A1 n1 parts) (hn2 : n2 ≤ c2) (_hc2 : c2 ≤ maxLen) (h2 : BoolsAt w w.heap.size A2 n2 good) :
    Calls Try.prog 4 #[.int .i64 k, .int .i64 m, .slice A1 n1 c1, .slice A2 n2 c2] w fun e w' => e = .returned (.bool true) ∧ Below w.heap.size w w' := by
  have hl := h1.1
  subst hl
  have hl := h2.1
  subst hl
  obtain ⟨k0, k1⟩ := bounds_i64 hk
  exact rsMends_walk0 k m A1 A2 c1 c2 parts good w (mendC_any w) (by omega) (by omega) h1 hn1 h2 hn2
end Go.Proofs.Ytbfkknoeaekajaa
