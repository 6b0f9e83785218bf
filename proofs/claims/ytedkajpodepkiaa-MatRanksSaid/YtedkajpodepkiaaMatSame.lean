/- The document's Same, of matrices. -/
import Derived.Test.YtedkajpodepkiaaMatVal
namespace Go.Proofs.Ytedkajpodepkiaa
open Go.RowKit

set_option maxHeartbeats 1000000 in
set_option maxRecDepth 100000 in
theorem refSame_any (r1 c1 r2 c2 : Int) (A1 A2 : Option Addr) (n1 n2 k1 k2 : Nat) (l1 l2 : List UInt8) (w : World) (h1 : Bytes w w.heap.size A1 n1 l1) (h2 : Bytes w w.heap.size A2 n2 l2) :
    Calls Try.prog 19 #[.agg #[.int .i64 r1, .int .i64 c1, .slice A1 n1 k1], .agg #[.int .i64 r2, .int .i64 c2, .slice A2 n2 k2]] w fun e w' => e = .returned (.bool (decide (r1 = r2 ∧ c1 = c2 ∧ l1 = l2))) ∧ Ext w w' := by
  have hE1 := extNew w (.cells #[.int .i64 r1, .int .i64 c1, .slice A1 n1 k1] 24)
  have hE2 := extNew (w.alloc (.cells #[.int .i64 r1, .int .i64 c1, .slice A1 n1 k1] 24)) (.cells #[.int .i64 r2, .int .i64 c2, .slice A2 n2 k2] 24)
  have hE := hE1.trans hE2
  have v1 := conv_bytes k1 (hE.bytes h1) (fun h => by subst h; rcases h1.2 with h | ⟨_, _, h, _⟩; exact h; cases h)
  have v2 := conv_bytes k2 (hE.bytes h2) (fun h => by subst h; rcases h2.2 with h | ⟨_, _, h, _⟩; exact h; cases h)
  clear h1 h2
  have HE := hide hE
  clear hE1 hE2 hE
  by_cases q1 : r1 = r2
  · subst q1
    by_cases q2 : c1 = c2
    · subst q2
      go_enter Try.func19, Try.ntmps19
      go_wp2
      go_ret
      exact ⟨ret_bool (by simp; rw [Bool.eq_iff_iff]; simp), HE.out⟩
    · have q2' : (c1 == c2) = false := by simpa using q2
      have Q2 := hide q2
      clear q2
      go_enter Try.func19, Try.ntmps19
      go_wp2
      go_ret
      exact ⟨ret_bool (decide_eq_false fun h => Q2.out h.2.1).symm, HE.out⟩
  · have q1' : (r1 == r2) = false := by simpa using q1
    have Q1 := hide q1
    clear q1
    go_enter Try.func19, Try.ntmps19
    go_wp2
    go_ret
    exact ⟨ret_bool (decide_eq_false fun h => Q1.out h.1).symm, HE.out⟩
end Go.Proofs.Ytedkajpodepkiaa
