/- The law NumsNone. -/
import Derived.Test.YtgnmdpklkmlpfaaCurEnd
import Derived.Test.YtgnmdpklkmlpfaaCurRest
import Derived.OpenShut
namespace Go.Proofs.Ytgnmdpklkmlpfaa
open Go.RowKit

set_option maxHeartbeats 2000000 in
set_option maxRecDepth 100000 in
theorem numsNone_walk (n e0 : Int) (w : World) (_hn : (Lit.int .i64 n).wf = true) (_he : (Lit.int .i64 e0).wf = true) :
    Calls Try.prog 9 #[.int .i64 n, .int .i64 e0] w fun e w' => e = .returned (.bool true) ∧ Below w.heap.size w w' := by
  have C0 := alive3_any w
  go_enter Try.func9, Try.ntmps9
  go_wp2_with fail
  refine C0.mono ?_
  rintro e w1 ⟨rfl, hE1⟩
  go_wp2_with fail
  refine (pcFail_nil w1 e0).mono ?_
  rintro e w2 ⟨rfl, hE2⟩
  go_wp2_with fail
  refine (pcNum_nil w2).mono ?_
  rintro e w3 ⟨rfl, hE3⟩
  go_wp2_with fail
  refine (pcInt_nil w3 n).mono ?_
  rintro e w4 ⟨rfl, hE4⟩
  go_wp2_with fail
  refine (pcByte_nil w4).mono ?_
  rintro e w5 ⟨rfl, hE5⟩
  go_wp2_with fail
  refine (pcFixed_nil w5 n).mono ?_
  rintro e w6 ⟨rfl, hE6⟩
  go_wp2_with fail
  refine (pcTake_nil w6 n).mono ?_
  rintro e w7 ⟨v7, rfl, hO7, hE7⟩
  obtain ⟨A7, n7, c7, rfl, _, hn7, _⟩ := hO7.form'
  obtain rfl : n7 = 0 := by simpa using hn7
  go_wp2_with fail
  refine (pcText_nil w7 n).mono ?_
  rintro e w8 ⟨rfl, hE8⟩
  go_wp2_with fail
  refine (pcEnd_nil w8).mono ?_
  rintro e w9 ⟨rfl, hE9⟩
  go_wp2_with fail
  refine (pcErr_nil w9).mono ?_
  rintro e w10 ⟨rfl, rfl⟩
  go_wp2_with fail
  refine (pcAt_nil w9).mono ?_
  rintro e w10 ⟨rfl, rfl⟩
  go_wp2_with fail
  refine (pcLeft_nil w9).mono ?_
  rintro e w10 ⟨rfl, rfl⟩
  go_wp2
  go_ret
  exact ⟨rfl, (((((((hE1.trans hE2).trans hE3).trans hE4).trans hE5).trans hE6).trans hE7).trans hE8).trans hE9⟩
end Go.Proofs.Ytgnmdpklkmlpfaa
