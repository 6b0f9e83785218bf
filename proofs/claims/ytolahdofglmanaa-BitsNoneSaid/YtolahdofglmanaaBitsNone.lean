/- The law BitsNone. -/
import Derived.Test.YtolahdofglmanaaBitAlive
namespace Go.Proofs.Ytolahdofglmanaa
open Go.RowKit

set_option maxHeartbeats 1000000 in
theorem bitsNone_walk (x n : Int) (w : World) (_hx : (Lit.int .u64 x).wf = true) (_hn : (Lit.int .i64 n).wf = true) :
    Calls Try.prog 7 #[.int .u64 x, .int .i64 n] w fun e w' => e = .returned (.bool true) ∧ Below w.heap.size w w' := by
  have C0 := alive2_any w
  rcases (by omega : n < 0 ∨ 64 < n ∨ (0 ≤ n ∧ n ≤ 64)) with h | h | ⟨h, h'⟩
  all_goals (
    go_enter Try.func7, Try.ntmps7
    go_wp2_with fail
    refine C0.mono ?_
    rintro e w1 ⟨rfl, hE1⟩
    go_wp2
    go_ret
    exact ⟨rfl, hE1⟩)
end Go.Proofs.Ytolahdofglmanaa
