/- The contract of the example that every law of chapter 3 asks first. -/
import Derived.Test.YtgnmdpklkmlpfaaNumFixed
namespace Go.Proofs.Ytgnmdpklkmlpfaa
open Go.RowKit

set_option maxHeartbeats 1000000 in
set_option maxRecDepth 100000 in
theorem alive3_any (w : World) : Calls Try.prog 10 #[] w fun e w' => e = .returned (.bool true) ∧ Ext w w' := by
  have CN := ownNum_any 300 w (by decide)
  rw [show Num.enc 300 = [172, 2] by decide] at CN
  go_enter Try.func10, Try.ntmps10
  go_wp2_with fail
  refine CN.mono ?_
  rintro e w1 ⟨v, rfl, hO, hE⟩
  obtain ⟨g, c, rfl, _, hc⟩ := hO.formG (by decide)
  have h0 := (hO.cell (i := 0) (by decide)).1
  have h1 := (hO.cell (i := 1) (by decide)).1
  simp at h0 h1
  go_wp2
  go_ret
  exact ⟨rfl, hE⟩
end Go.Proofs.Ytgnmdpklkmlpfaa
