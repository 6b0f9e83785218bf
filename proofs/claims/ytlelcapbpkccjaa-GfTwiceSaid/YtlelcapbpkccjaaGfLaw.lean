/- What the laws of chapter 4 ask of the program's field, whatever it is reckoned by; the example. -/
import Derived.Test.YtlelcapbpkccjaaGfAdd
import Derived.OpenShut
namespace Go.Proofs.Ytlelcapbpkccjaa
open Go.RowKit

/-- From world w on, the program's Mul tells products. -/
def MulC (w : World) : Prop := ∀ (a b : Nat) (W : World), a < 256 → b < 256 → Ext w W → Calls Try.prog 13 #[.int .u8 a, .int .u8 b] W fun e W' => e = .returned (.int .u8 (Gf.mul a b : Nat)) ∧ Ext W W'

theorem alive4_any {w W : World} (hM : MulC w) (hE : Ext w W) : Calls Try.prog 12 #[] W fun e W' => e = .returned (.bool true) ∧ Ext W W' := by
  have C := hM 2 128 W (by decide) (by decide) hE
  rw [show Gf.mul 2 128 = 29 by decide +kernel] at C
  go_enter Try.func12, Try.ntmps12
  go_wp2_with fail
  refine C.mono ?_
  rintro e w2 ⟨rfl, hE2⟩
  go_wp2
  go_ret
  exact ⟨rfl, hE2⟩
end Go.Proofs.Ytlelcapbpkccjaa
